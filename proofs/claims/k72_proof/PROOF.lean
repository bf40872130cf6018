import PyProof.Rows.All
import Wide.All
import OpenK.AllK
import Wide.FinOn
import Lean
import PyProof.EqAt
import PyProof.EqKinds
import PyProof.TupleCall
import PyProof.ExcBaseAll.ValueError
import PyProof.ExcAttrAll.ValueError
import PyProof.NsDelKeeps
import PySem.Challenge.RW_dutyproof_k72_stuck
open Option renaming some→Za,none→Zb,map_eq_some_iff→Z5,isSome_iff_exists→Za0,join_some→ZaS,bind_some→Zbw,map_some→Zbz,getD_some→Zcj,bind_eq_some_iff→ZdQ
open List renaming getElem?_eq_getElem→Zc,getElem?_eq_some_iff→Zn,length_map→Zo,map_cons→Zs,mem_cons_of_mem→Zt,getElem?_append_right→Zu,mem_cons_self→Zv,size_toArray→Zz,getElem?_map→Z0,getD_eq_getElem?_getD→Z3,mem_append_right→Z4,mem_map→Z6,getElem?_append_left→Z7,range→Z8,mem_cons→ZB,length_cons→ZC,length_append→ZE,append_assoc→ZF,cons_append→ZH,mem_singleton→ZI,mem_filter→ZL,replicate→ZN,mem_append→ZO,getElem_mem→ZR,getElem?_cons_succ→ZS,lookup_cons→ZU,getElem?_set_self→ZX,all_cons→ZY,getElem?_set_ne→ZZ,mem_append_left→Zab,length_take→Zad,length_range→Zae,getElem?_cons_zero→Zai,mem_iff_getElem→Zan,mem_range→Zar,nodup_append→Zas,drop_eq_getElem_cons→Zaw,findIdx?_eq_some_iff_getElem→Zaz,perm_ext_iff_of_nodup→Za8,nil_append→Za9,map_nil→ZaB,not_mem_nil→ZaC,getElem_map→ZaD,eq_nil_of_length_eq_zero→ZaG,append_nil→ZaK,nodup_cons→ZaL,length_nil→ZaM,mem_of_mem_take→ZaT,take_of_length_le→ZaW,replicate_succ→ZaZ,getElem?_eq_none→Zbc,perm_middle→Zbe,sum_cons→Zbh,set_append_left→Zbj,find?_cons→Zbn,map_append→Zb0,lookup→Zb1,flatten_cons→Zb2,take_succ_eq_append_getElem→Zb6,length_reverse→ZbB,getElem?_replicate→ZbD,any_eq_true→ZbG,filter_cons_of_neg→ZbI,filter_cons_of_pos→ZbJ,set_cons_zero→ZbO,length_replicate→ZbS,length_singleton→ZbT,getElem?_reverse→ZbU,length_filter_le→ZbV,ext_getElem?→ZbY,mem_of_getElem?→Zcb,mem_flatten→Zck,getElem?_eq_none_iff→Zcl,filterMap_cons→Zco,any_cons→Zct,getElem?_take→Zc2,set_cons_succ→Zc3,drop_eq_nil_of_le→ZcD,eraseIdxIfInBounds_toArray→ZcG,getElem?_toArray→ZcI,set_append_right→ZcJ,length_drop→ZcM,filter_cons→ZcP,all_eq_true→ZcR,nodup_range→ZcT,mem_of_mem_drop→ZcZ,of_mem_zip→Zda,length_set→Zdc,length_pos_iff→Zdg,map_map→Zdn,mapM_cons→Zdu,findIdx?_cons→Zdw,length_eraseIdx_of_lt→Zdy,findIdx?_eq_none_iff→Zd1,getElem_take→Zd6,getElem_inj→ZdF,drop_length→ZdR,range_succ_eq_map→ZdV,take_append_drop→Zeh,map_drop→Zew
open PySem renaming Value→Zd,wpAny_bind→Zh,Addr→Zi,Shared→Zk,mainGlobals→Zm,wpAny→Zq,wpAny_pure→Zw,model→Z1,starEach→Z9,Program→ZA,Around→ZG,World→ZM,wpAny_mono→ZP,wpAny_Call_Name_kw→ZQ,Heap→ZT,mem_of_lookup→ZV,compareOp→Zak,FuncData→Zam,wpAny_holding→Zat,wpAny_tryCatch→Za7,codeAny_builtin→ZaA,assignEach→ZaF,eval→ZaJ,binaryOp→ZaQ,backTo→ZaU,wpAny_pyIter_list→ZaV,Scope→Zba,NameKind→Zbb,behindInMarks→Zbf,ExceptHandler→Zbg,codeAny_call_builtin→Zbi,wpAny_truthy_bool→Zbl,bootBuiltins→Zbp,wpAny_field→Zbs,plainId_quiet→Zbu,Stmt→Zbv,foldedSetIterable→Zb3,Spec→Zb7,wpAny_standAt→Zb9,rawInt→ZbC,wpAny_setField→ZbE,wpAny_seqItems→ZbF,sliceBounds→ZbK,wpAny_letGo→ZbM,codeAny_mono→ZbN,wpAny_execs_nil→ZbQ,wpAny_updateSeq→ZbR,codeAny→ZbW,wpAny_loadPart_at→ZbX,scanBound→Zch,pyNext→Zcp,attributeBase→Zcs,letOwnedTupleGo→Zcv,BindsTo→Zcw,sysModules→Zcy,builtinsNs→Zcz,wpAny_call→Zc0,swapsWith→Zc4,keywordEach→Zc5,wpAny_pyNext_list_item→Zc8,wpAny_newObj_type→ZcC,plainObj_wpAny_Assign_Attribute→ZcH,Arguments→ZcL,call_meets→ZcO,setFlight→ZcQ,seqItems?→ZcS,strKind→ZcV,Keyword→Zdj,holding→Zdk,Builtin→Zdl,wpAny_newFunctionEnv_cells→Zds,sizeLine_eq→Zd2,excClassObj→Zd4,intBits_le_64→Zd7,Result→Zd8,wpAny_getItem_list_slice→ZdB,PyData→ZdC,getMethod→ZdG,bindArgs→ZdH,codeAmong→ZdK,lastMarks→ZdL,wpAny_execs_cons→ZdM,noteFrame→ZdN,backToKw→ZdO,typeOf→ZdT,closureFor→ZdU,ExcBaseFacts→ZdY,wpAny_loadPart'→Zea,fresh→Zeb,wpAny_pyNext_list_end→Zec,codeAny_call_function→Zed,wpAny_loadPart→Zei,subscripted→Zej,assign→Zel,getItem→Zeq,callerA→Zer,cLine→Zet,assignInOrder→Zeu,evalPart_none→Zev,isTrue→Zex,pyIter→Zey,typeLookup→Zez,cameBackBy→Ze0,isInstance→Ze1,Within→Ze2,GenState→Ze3,Model→Ze4,valueAt→Ze7,standAt→Ze8,IsPart→ZeD,slicePick→ZeE,strValues→ZeF,updateSeq→ZeG,argsOk→ZeH
open Bool renaming true→Ze,false→Zj,and_eq_true→Zl,false_ne_true→Zp,false_eq_true→Zag,or_eq_true→Zaq,not_eq_true'→ZaH,eq_false_iff→ZaX,true_eq_false→Zbx,and_eq_true_iff→Zb4,eq_iff_iff→ZbP,not_false→Zcd,not_true→Zcu,or_eq_false_iff→ZcX
open PySem.Heap renaming get?_push_of_some→Zg,lt_size→Zx,get?_push_size→Zy,get?_update_other→Z2,get?_update_self→Za3,get?_none_of_le→Zca,SameBut→Zc7,size_push→Zc9,get?_push_at→Zd5,ExtBut→Zek,MadeExcOf→Zem
open Nat renaming le_refl→Zr,ne_of_lt→ZD,lt_of_lt_of_le→ZJ,le_trans→Zah,zero_le→Zal,le_succ→Zao,lt_succ_self→ZaR,ne_of_gt→Zbq,add_right_cancel→Zcf,succ_le_succ→Zcg,lt_irrefl→Zcr,le_of_lt→Zc6,lt_succ_of_lt→ZcE,min_eq_left→Zdd,le_of_eq→Zdi,le_of_not_lt→ZdJ,add_sub_cancel_left→ZdP,lt_of_succ_lt_succ→ZdZ,le_of_ble_eq_true→Zeg,sub_self→ZeA,lt_or_ge→ZeB
open PySem.F renaming plain_max_loop→ZK,entry_max_loop→ZaY,plainAttrs_list→Zbm,excBase_ValueError→Zcc,slot_dict_setdefault→Zdb,args_tuple_add_2→Zd9,entry_tuple_add→ZdI,slot_tuple_add→ZdS
open Ne renaming symm→ZW
open PyProof.Rows renaming callWith_type1→Zaa,callWith_builtin1→Zbd,evalAll_cons→Zcn,subscriptTail_builtinR→ZcB,seqObj→ZcF,envOfC→ZcK,IntsAre→ZcU,AllBare→Zdh,spliced_more→Zdz,spliced_none→Zd0,subscriptTail→ZdA,evalAll_nil→ZdE
open PySem.Obj renaming mapFields→Zac,data_mapFields→Zax,isFreed_of_fields→Zby,mapSeq→ZcN,cls_mapFields→Zd3
open PySem.Value renaming none→Zaf,ref→Za4,builtin→Zbt,type→ZbZ,bool→Zcx,int→Zdo,str→Zep
open Option.some renaming inj→Zaj,injEq→ZaI
open PySem.Str renaming ofString→Zap
open PySem.PyData renaming canLayAll0→Zau,eqv→ZaP,canLay0→Zbk,list→ZbL,int→Zce,eqvAll→ZcW
open Int renaming mul_le_mul_of_nonneg_left→Zav,emod_lt_of_pos→Zay,emod_nonneg→ZaO,le_refl→Zb5,mul_le_mul_of_nonneg_right→ZbH,le_trans→Zci,toNat_natCast→ZcA,le_ediv_iff_mul_le→ZdX
open PySem.NameKind renaming free→Za1,cell→ZdD
open False renaming elim→Za2
open Array renaming getElem?_eq_some_iff→Za5,getElem?_setIfInBounds_ne→ZbA,getElem?_eq_getElem→Zcm,toArray_toList→ZcY,length_toList→Zdf,getD_eq_getD_getElem?→Zdm,append_assoc→Zdp,find?_toList→Zdr,getElem?_toList→Zee,mem_iff_getElem→Zef
open PySem.Around renaming under_plainId→Za6,under→Ze5
open True renaming intro→ZaE
open ForInStep renaming yield→ZaN
open PyProof.Rows.F renaming plain_set_update_loop→Zbo,entry_set_update_loop→Zcq
open PySem.Builtin.Builtins renaming bindParams→Zbr
open PySem.Builtin.List renaming listTooLong→Zb8
open PySem.Code renaming quiet_builtin→Zc1,isFrame→Ze6
open List.cons renaming injEq→Zde
open PySem.Calls renaming Name_function_global→Zdq,spliced_cons→Zdt,callWith_builtin→ZdW
open PySem.Walks renaming list→Zdv
open List.Perm renaming cons_inv→Zdx
open Sum renaming inl→Zen,inr→Zeo
open PySem.Paired renaming length→Zes
open Classical renaming em→Ze9
open PySem.Data renaming cell→ZeC
noncomputable section
set_option Elab.async false
set_option linter.all false
set_option maxRecDepth 100000
abbrev CeT:=PySem.Str->Option PySem.Addr
abbrev QvT:=PySem.Value->PySem.Shared->Prop
abbrev PnT:=List (PySem.Addr×PySem.Obj)
theorem Zf {p:Prop}(h:False):p:=h.elim
namespace L2
open PySem PySem.Spec PyProof.Rows
abbrev Key:=Sum Int Str
def Xd:Key->Zd->Bool
 | .inl k,v=>Value.isInt k v
 | .inr x,v=>Value.isStrOf x v
def keyH (w:ZM):Key->Int
 | .inl k=>hashInt k
 | .inr x=>hashStr w x
theorem Vh:∀{k:Key}{v:Zd},Xd k v=Ze->(∃i t,k=Zen i/\v=Zdo i t)∨(∃x t,k=Zeo x/\v=Zep x t)
 | .inl i,v,h=>by
  obtain⟨t,e⟩:=Value.isInt_shape (k:=i) (v:=v) h
  exact .inl ⟨i,t,rfl,e⟩
 | .inr x,v,h=>by
  obtain⟨t,e⟩:=Value.isStrOf_shape (x:=x) (v:=v) h
  exact .inr ⟨x,t,rfl,e⟩
theorem Jo1 (i:Int)(t:Tok):Xd (.inl i) (.int i t)=Ze:=by simp[Xd,Value.isInt]
theorem Jo2 (x:Str)(t:Tok):Xd (.inr x) (.str x t)=Ze:=by simp[Xd,Value.isStrOf]
theorem Jym (a b:Int):decide ((Zen a:Key)=Zen b)=(a==b):=by
 by_cases e:a=b
 ·subst e;simp
 ·have h:¬(Zen a:Key)=Zen b:=λ q=>e (Sum.inl.inj q)
  rw[decide_eq_false h]
  exact(beq_eq_false_iff_ne.mpr e).symm
theorem Jyp (a b:Str):decide ((Zeo a:Key)=Zeo b)=decide (a=b):=by
 by_cases e:a=b
 ·subst e;simp
 ·have h:¬(Zeo a:Key)=Zeo b:=λ q=>e (Sum.inr.inj q)
  rw[decide_eq_false h,decide_eq_false e]
theorem Jyn (a:Int)(b:Str):decide ((Zen a:Key)=Zeo b)=Zj:=decide_eq_false (λ q=>nomatch q)
theorem Jyo (a:Str)(b:Int):decide ((Zeo a:Key)=Zen b)=Zj:=decide_eq_false (λ q=>nomatch q)
def QQ (prog:ZA)(w:ZM):PySem.KeyKind prog w Key where
 is:=Xd
 hash:=keyH w
 inj:=λ v a b ha hb=>by
  rcases Vh ha with⟨i,t,rfl,rfl⟩|⟨x,t,rfl,rfl⟩
  ·rcases Vh hb with⟨j,u,rfl,e⟩|⟨y,u,rfl,e⟩
   ·injection e with e1 _;rw[e1]
   ·exact nomatch e
  ·rcases Vh hb with⟨j,u,rfl,e⟩|⟨y,u,rfl,e⟩
   ·exact nomatch e
   ·injection e with e1 _;rw[e1]
 byValue:=λ k v h=>by
  rcases Vh h with⟨i,t,rfl,rfl⟩|⟨x,t,rfl,rfl⟩<;>rfl
 pyHash:=λ hv h=>by
  rcases Vh hv with⟨i,t,rfl,rfl⟩|⟨x,t,rfl,rfl⟩
  ·exact wpAny_pyHash_int h
  ·exact wpAny_pyHash_str h
 eqBool:=λ hu hv h=>by
  rcases Vh hu with⟨i,t,rfl,rfl⟩|⟨x,t,rfl,rfl⟩
  ·rcases Vh hv with⟨j,u,rfl,rfl⟩|⟨y,u,rfl,rfl⟩
   ·rw[Jym] at h;exact wpAny_eqBool_int h
   ·rw[Jyn] at h;exact SeqAt.EqAt.int_str i t y u _ _ _ _ h
  ·rcases Vh hv with⟨j,u,rfl,rfl⟩|⟨y,u,rfl,rfl⟩
   ·rw[Jyo] at h;exact SeqAt.EqAt.str_int x t j u _ _ _ _ h
   ·rw[Jyp] at h;exact wpAny_eqBool_str h
 «strs» :=λ k x t v h=>by
  rcases Vh h with⟨i,u,rfl,e⟩|⟨y,u,rfl,e⟩
  ·exact nomatch e
  ·injection e with e1 _
   subst e1
   cases v<;>rfl
theorem Jke (prog:ZA)(w:ZM)(i:Int)(t:Tok):(QQ prog w).is (.inl i) (.int i t)=Ze:=Jo1 i t
theorem Jkf (prog:ZA)(w:ZM)(x:Str)(t:Tok):(QQ prog w).is (.inr x) (.str x t)=Ze:=Jo2 x t
inductive V where
 | non|bl (b:Bool)|int (i:Int)|str (x:Str)|byt (b:Array UInt8)|flt (b:UInt64)|ref (a:Zi)|ty (n:String)
 deriving DecidableEq
def RelV:V->Zd->Prop
 | .non,u=>u=Zaf
 | .bl b,u=>u=Zcx b
 | .int i,u=>∃t,u=Zdo i t
 | .str x,u=>∃t,u=Zep x t
 | .byt b,u=>∃t,u=Value.bytes b t
 | .flt b,u=>∃t,u=Value.float b t
 | .ref a,u=>u=Za4 a
 | .ty n,u=>u=ZbZ n
abbrev Vals:List V->List Zd->Prop:=Paired RelV
theorem Vals.length {xs:List V}{us:List Zd}(r:Vals xs us):xs.length=us.length:=Zes r
theorem Vals.get:∀{xs:List V}{us:List Zd}{i:Nat}{x:V},Vals xs us->xs[i]?=Za x->∃u,us[i]?=Za u/\RelV x u
 | _,_,_,_,.nil,e=>by simp at e
 | _,_,0,_,.cons r _,e=>by simp at e;subst e;exact⟨_,rfl,r⟩
 | _,_,i+1,x,.cons _ t,e=>by
  obtain⟨u,h1,h2⟩:=Vals.get (i:=i) (x:=x) t (by simpa using e)
  exact⟨u,by simpa using h1,h2⟩
theorem Vals.set {x:V}{u:Zd}(r:RelV x u):∀{xs:List V}{us:List Zd}(i:Nat),Vals xs us->Vals (xs.set i x) (us.set i u)
 | _,_,_,.nil=>.nil
 | _,_,0,.cons _ t=>.cons r t
 | _,_,i+1,.cons q t=>.cons q (Vals.set r i t)
theorem Vals.append:∀{xs ys:List V}{us ws:List Zd},Vals xs us->Vals ys ws->Vals (xs++ys) (us++ws)
 | _,_,_,_,.nil,s=>s
 | _,_,_,_,.cons r t,s=>.cons r (Vals.append t s)
theorem Vals.take:∀{xs:List V}{us:List Zd}(n:Nat),Vals xs us->Vals (xs.take n) (us.take n)
 | _,_,0,_=>.nil
 | _,_,_+1,.nil=>.nil
 | _,_,n+1,.cons r t=>.cons r (Vals.take n t)
theorem Vals.drop:∀{xs:List V}{us:List Zd}(n:Nat),Vals xs us->Vals (xs.drop n) (us.drop n)
 | _,_,0,r=>r
 | _,_,_+1,.nil=>.nil
 | _,_,n+1,.cons _ t=>Vals.drop n t
theorem Vals.none_of:∀{xs:List V}{us:List Zd}{i:Nat},Vals xs us->xs[i]?=Zb->us[i]?=Zb:=λ {xs us i} r e=>by
 have h1:=r.length
 have h2:xs.length<=i:=Zcl.mp e
 exact Zcl.mpr (by omega)
def RelO:Option V->Option Zd->Prop
 | some v,Za u=>RelV v u
 | none,Zb=>True
 | _,_=>False
def KV {κ:Type}:List (κ×V)->List (κ×Zd)->Prop:=Paired λ (p:κ×V)(q:κ×Zd)=>p.1=q.1/\RelV p.2 q.2
def kV:Key->V
 | .inl i=>.int i
 | .inr x=>.str x
inductive HO where
 /-- a list -/
 | lst (xs:List V)
 /-- a tuple (never changes) -/
 | tup (xs:List V)
 /-- a dict whose keys are ints and texts; one whose keys are tuples of ints and texts (the empty one is both) -/
 | dK (kvs:List (Key×V))|dT (kvs:List (List Key×V))
 /-- a set of ints: its members, its size -/
 | set (S:Int->Bool) (n:Nat)
 /-- an instance of the class at C, its dict at dx, its attributes -/
 | ins (C dx:Zi) (fs:List (Str×V))
 /-- the dict of the instance at x -/
 | own (x:Zi)
 /-- the dict of an exception -/
 | xd (fs:List (Str×V))
 /-- a bound method, f of x -/
 | met (f x:Zi)
 /-- a range object lo, lo + 1, .. below hi -/
 | rng (lo hi:Int)
 /-- a thing that is known to the object (the script; a dict while a loop walks it): read, never written while it is so -/
 | frz (o:Obj) (u:HO)
 /-- a code object's table -/
 | tbl (ps:Array Zd)
 /-- any other thing, by what is Ze of its one object (a def of one's own: SetO a S n := HO.ext λ h => ..) -/
 | ext (φ:ZT->Prop)
abbrev Hp:=Zi->Option HO
def upd (H:Hp)(a:Zi)(o:HO):Hp:=λ b=>if b=a then Za o else H b
theorem Jy {H:Hp}{a:Zi}{o:HO}:upd H a o a=Za o:=by unfold upd;rw[if_pos rfl]
theorem Jo {H:Hp}{a b:Zi}{o:HO}(h:b≠a):upd H a o b=H b:=by unfold upd;rw[if_neg h]
theorem QR {H:Hp}{a b:Zi}{o:HO}(h:H a=Za o)(h':H b=Zb):a≠b:=by
 intro e;subst e;rw[h] at h';cases h'
section
variable (P:ZA)(w:ZM)
def JE (H:Hp)(h:ZT)(a:Zi):HO->Prop
 | .lst xs=>xs.length<=sizeLine/\∃(its:List Zd) (n:Nat),Vals xs its/\h.get? a=Za { cls:=.type "list",data:=.seq its.toArray n }
 | .tup xs=>xs.length<=sizeLine/\∃its:List Zd,Vals xs its/\IsTup h a its.toArray
 | .dK kvs=>kvs.length<=sizeLine/\(a==Zcy)=Zj/\∃vs,KV kvs vs/\h.DictOf (QQ P w) a vs
 | .dT kvs=>kvs.length<=sizeLine/\(a==Zcy)=Zj/\∃xs:List (List Key×Zi×Zd),
   Paired (λ (p:List Key×V)(q:List Key×Zi×Zd)=>p.1=q.1/\H q.2.1=Za (.tup (p.1.map kV))/\RelV p.2 q.2.2) kvs xs /\
   ∃o es ep,h.get? a=Za o/\o.ExactDict/\o.data=.dict es ep/\es.toList=xs.map (entryOfKey (tupleKind (QQ P w)))/\(xs.map (·.1)).Nodup
 | .set S n=>h.SetOf (intKind P w) a S n
 | .ins C dx fs=>H dx=Za (.own a)/\fs.length<=1000/\dx≠a/\h.get? a=Za (W.instObj C dx) /\
   ∃mA,h.Ns1 dx mA/\(∀f,RelO (fs.lookup f) (mA f))/\Ze2 mA (fs.map (·.1))
 | .own _=>∃o,h.get? a=Za o
 | .xd fs=>∃mA,h.Ns1 a mA/\∀f,RelO (fs.lookup f) (mA f)
 | .rng lo hi=>∃t u v,h.get? a=Za { cls:=.type "range",data:=.fields #[.int lo t,.int hi u,.int 1 v] }
 | .frz o u=>h.get? a=Za o/\JE H h a u
 | .tbl ps=>h.get? a=Za { cls:=.none,data:=.fields ps }
 | .met f x=>h.get? a=Za (W.methodObj (.ref f) (.ref x))
 | .ext φ=>φ h/\(∃o,h.get? a=Za o)/\∀h1 h2:ZT,φ h1->(∀o,h1.get? a=Za o->h2.get? a=Za o)->φ h2
def HOk (H:Hp)(h:ZT):Prop:=∀a o,H a=Za o->JE P w H h a o
end
section
variable {P:ZA}{w:ZM}{H H':Hp}{h h':ZT}{a:Zi}{o:HO}
theorem JE.lt (x:JE P w H h a o):a<h.objs.size:=by
 cases o with
 | lst xs=>obtain⟨_,_,_,_,e⟩:=x;exact Zx e
 | tup xs=>obtain⟨_,_,_,p⟩:=x;exact p.lt
 | dK kvs=>obtain⟨_,_,_,_,o,_,_,e,_⟩:=x;exact Zx e
 | dT kvs=>obtain⟨_,_,_,_,o,_,_,e,_⟩:=x;exact Zx e
 | set S n=>obtain⟨o,_,_,_,e,_⟩:=x;exact Zx e
 | ins C dx fs=>obtain⟨_,_,_,e,_⟩:=x;exact Zx e
 | own y=>obtain⟨_,e⟩:=x;exact Zx e
 | xd fs=>obtain⟨_,⟨_,_,_,e,_⟩,_⟩:=x;exact Zx e
 | rng lo hi=>obtain⟨_,_,_,e⟩:=x;exact Zx e
 | frz ob u=>obtain⟨e,_⟩:=x;exact Zx e
 | tbl ps=>exact Zx (show h.get? a=Za _ from x)
 | met f y=>exact Zx (show h.get? a=Za _ from x)
 | ext φ=>obtain⟨_,⟨_,e⟩,_⟩:=x;exact Zx e
theorem Paired.mapP {α β:Type}{F G:α->β->Prop}:∀{l₁:List α}{l₂:List β},Paired F l₁ l₂->(∀a b,F a b->G a b)->Paired G l₁ l₂
 | _,_,.nil,_=>.nil
 | _,_,.cons r t,f=>.cons (f _ _ r) (Paired.mapP t f)
theorem JE.stay (x:JE P w H h a o)(k:∀b u,(b=a∨H b=Za (.own a))->h.get? b=Za u->h'.get? b=Za u)
  (ho:∀b,H b=Za (.own a)->H' b=Za (.own a))(ht:∀b xs,H b=Za (.tup xs)->H' b=Za (.tup xs)):JE P w H' h' a o:=by
 induction o with
 | lst xs=>obtain⟨z,its,n,r,e⟩:=x;exact⟨z,its,n,r,k _ _ (.inl rfl) e⟩
 | tup xs=>obtain⟨z,its,r,ob,e,c⟩:=x;exact⟨z,its,r,ob,k _ _ (.inl rfl) e,c⟩
 | dK kvs=>obtain⟨z,y,vs,r,ob,es,ep,e,c⟩:=x;exact⟨z,y,vs,r,ob,es,ep,k _ _ (.inl rfl) e,c⟩
 | dT kvs =>
  obtain⟨z,y,xs,r,ob,es,ep,e,c⟩:=x
  exact⟨z,y,xs,Paired.mapP r λ p q z=>⟨z.1,ht _ _ z.2.1,z.2.2⟩,ob,es,ep,k _ _ (.inl rfl) e,c⟩
 | set S n=>obtain⟨ob,es,ep,t,e,c⟩:=x;exact⟨ob,es,ep,t,k _ _ (.inl rfl) e,c⟩
 | ins C dx fs =>
  obtain⟨d,z,ne,e,mA,⟨od,es,ep,e2,c⟩,r⟩:=x
  exact⟨ho _ d,z,ne,k _ _ (.inl rfl) e,mA,⟨od,es,ep,k _ _ (.inr d) e2,c⟩,r⟩
 | own y=>obtain⟨ob,e⟩:=x;exact⟨ob,k _ _ (.inl rfl) e⟩
 | xd fs=>obtain⟨mA,⟨od,es,ep,e,c⟩,r⟩:=x;exact⟨mA,⟨od,es,ep,k _ _ (.inl rfl) e,c⟩,r⟩
 | rng lo hi=>obtain⟨t,u,v,e⟩:=x;exact⟨t,u,v,k _ _ (.inl rfl) e⟩
 | frz ob u ih=>obtain⟨e,q⟩:=x;exact⟨k _ _ (.inl rfl) e,ih q⟩
 | tbl ps =>
  have e:h.get? a=Za { cls:=.none,data:=.fields ps }:=x
  show h'.get? a=Za { cls:=.none,data:=.fields ps }
  exact k a _ (.inl rfl) e
 | met f y =>
  have e:h.get? a=Za (W.methodObj (.ref f) (.ref y)):=x
  show h'.get? a=Za (W.methodObj (.ref f) (.ref y))
  exact k a _ (.inl rfl) e
 | ext φ=>obtain⟨p,⟨o,e⟩,st⟩:=x;exact⟨st _ _ p λ o q=>k _ _ (.inl rfl) q,⟨o,k _ _ (.inl rfl) e⟩,st⟩
theorem HOk.lt (x:HOk P w H h)(e:H a=Za o):a<h.objs.size:=(x a o e).lt
theorem HOk.fresh (x:HOk P w H h)(e:h.objs.size<=a):H a=Zb:=by
 cases q:H a with
 | none=>rfl
 | some u=>exact absurd (ZJ (x.lt q) e) (Zcr _)
theorem HOk.kept (x:HOk P w H h)(k:∀b u,h.get? b=Za u->h'.get? b=Za u):HOk P w H h':=λ a o e =>
 (x a o e).stay (λ b u _ q=>k b u q) (λ _ q=>q) λ _ _ q=>q
theorem HOk.laid (x:HOk P w H h)(k:∀b u,h.get? b=Za u->h'.get? b=Za u)(hp:h.objs.size<=a)(new:JE P w (upd H a o) h' a o):HOk P w (upd H a o) h':=λ b u e=>by
 have hn:=x.fresh hp
 by_cases hb:b=a
 ·subst hb;rw[Jy] at e;cases e;exact new
 ·rw[Jo hb] at e
  exact(x b u e).stay (λ c v _ q=>k c v q) (λ c q=>by rw[Jo (QR q hn)];exact q) λ c xs q=>by rw[Jo (QR q hn)];exact q
end
def Rd (H:Hp)(a:Zi)(u:HO):Prop:=H a=Za u∨∃o,H a=Za (.frz o u)
theorem Rd.of {H:Hp}{a:Zi}{u:HO}(h:H a=Za u):Rd H a u:=.inl h
theorem Rd.ok {P:ZA}{w:ZM}{H:Hp}{h:ZT}{a:Zi}{u:HO}(r:Rd H a u)(x:HOk P w H h):JE P w H h a u:=by
 rcases r with r|⟨o,r⟩
 ·exact x a u r
 ·obtain⟨_,q⟩:=x a _ r
  exact q
def Mut:Option HO->Prop
 | some (.lst _)=>True
 | some (.dK _)=>True
 | some (.dT _)=>True
 | some (.set _ _)=>True
 | some (.ins _ _ _)=>True
 | some (.ext _)=>True
 | _=>False
section
variable {P:ZA}{w:ZM}{H:Hp}{h h':ZT}{x e:Zi}{o':HO}
theorem HOk.write (ok:HOk P w H h)(mu:Mut (H x))(he:e=x∨H e=Za (.own x))(k:∀b u,b≠e->h.get? b=Za u->h'.get? b=Za u)(heo:∃u,h'.get? e=Za u)
  (new:JE P w (upd H x o') h' x o'):HOk P w (upd H x o') h':=λ b u q=>by
 have nown:∀c y,H c=Za (.own y)->c≠x:=λ c y r z=>by subst z;rw[r] at mu;exact mu
 have ntup:∀c xs,H c=Za (.tup xs)->c≠x:=λ c xs r z=>by subst z;rw[r] at mu;exact mu
 by_cases hb:b=x
 ·subst hb;rw[Jy] at q;cases q;exact new
 ·rw[Jo hb] at q
  by_cases hbe:b=e
  ·have q':H b=Za (.own x):=by
    rcases he with z|z
    ·exact absurd (hbe.trans z) hb
    ·rw[hbe];exact z
   rw[q] at q';cases q'
   obtain⟨v,hv⟩:=heo
   exact⟨v,by rw[hbe];exact hv⟩
  ·refine(ok b u q).stay (λ c v hc r=>k c v ?_ r) (λ c r=>by rw[Jo (nown c b r)];exact r) λ c xs r=>by rw[Jo (ntup c xs r)];exact r
   rcases hc with rfl|hc
   ·exact hbe
   ·rintro rfl
    rcases he with z|z
    ·exact nown c b hc z
    ·rw[hc] at z;cases z;exact hb rfl
end
structure Un (fs ex:List Zi)(H H':Hp)(h h':ZT):Prop where
 keep:∀b o,h.get? b=Za o->H b=Zb->b∉fs->b∉ex->h'.get? b=Za o
 slot:∀b o,h.get? b=Za o->H b=Zb->b∈fs->b∉ex->∃sl,h'.get? b=Za { o with slots:=sl }
 free:∀b o,h.get? b=Za o->H b=Zb->b∉ex->H' b=Zb
 there:∀b o,h.get? b=Za o->b∉ex->∃o',h'.get? b=Za o'
 tups:∀b xs,H b=Za (.tup xs)->H' b=Za (.tup xs)
 frzs:∀b o u,H b=Za (.frz o u)->H' b=Za (.frz o u)
 tbls:∀b ps,H b=Za (.tbl ps)->∃more,H' b=Za (.tbl (ps++more))
section
variable {fs fs' ex ex':List Zi}{H H1 H2:Hp}{h h1 h2 h':ZT}{a x e:Zi}{o:HO}
theorem Un.any (u:Un fs ex H H1 h h1){b:Zi}{ob:Obj}(q:h.get? b=Za ob)(n:H b=Zb)(hx:b∉ex):∃sl,h1.get? b=Za { ob with slots:=sl }:=by
 by_cases hb:b∈fs
 ·exact u.slot b ob q n hb hx
 ·exact⟨ob.slots,u.keep b ob q n hb hx⟩
theorem Un.trans (a:Un fs ex H H1 h h1)(b:Un fs ex H1 H2 h1 h2):Un fs ex H H2 h h2 where
 keep:=λ c ob q n hc hx=>b.keep c ob (a.keep c ob q n hc hx) (a.free c ob q n hx) hc hx
 slot:=λ c ob q n hc hx=>by
  obtain⟨sl,e1⟩:=a.slot c ob q n hc hx
  obtain⟨sl',e2⟩:=b.slot c _ e1 (a.free c ob q n hx) hc hx
  exact⟨sl',e2⟩
 free:=λ c ob q n hx=>by
  obtain⟨o',e1⟩:=a.there c ob q hx
  exact b.free c o' e1 (a.free c ob q n hx) hx
 there:=λ c ob q hx=>by
  obtain⟨o',e1⟩:=a.there c ob q hx
  exact b.there c o' e1 hx
 tups:=λ c xs q=>b.tups c xs (a.tups c xs q)
 frzs:=λ c ob xs q=>b.frzs c ob xs (a.frzs c ob xs q)
 tbls:=λ c ps q=>by
  obtain⟨m1,e1⟩:=a.tbls c ps q
  obtain⟨m2,e2⟩:=b.tbls c _ e1
  exact⟨m1++m2,by rw[e2,Zdp]⟩
theorem Un.kept (k:∀b u,h.get? b=Za u->h'.get? b=Za u):Un fs ex H H h h' :=
 ⟨λ b ob q _ _ _=>k b ob q,λ b ob q _ _ _=>⟨ob.slots,k b ob q⟩,λ _ _ _ n _=>n,λ b ob q _=>⟨ob,k b ob q⟩,λ _ _ q=>q,λ _ _ _ q=>q,λ _ ps q=>⟨#[],by rw[q];simp⟩⟩
theorem Un.refl:Un fs ex H H h h:=Un.kept λ _ _ q=>q
theorem Un.laid (k:∀b u,h.get? b=Za u->h'.get? b=Za u)(hp:h.objs.size<=a)(hn:H a=Zb):Un fs ex H (upd H a o) h h' where
 keep:=λ b u q _ _ _=>k b u q
 slot:=λ b u q _ _ _=>⟨u.slots,k b u q⟩
 free:=λ b u q n _=>by rw[Jo (ZD (ZJ (Zx q) hp))];exact n
 there:=λ b u q _=>⟨u,k b u q⟩
 tups:=λ b xs q=>by rw[Jo (QR q hn)];exact q
 frzs:=λ b u xs q=>by rw[Jo (QR q hn)];exact q
 tbls:=λ b ps q=>⟨#[],by rw[Jo (QR q hn),q];simp⟩
theorem Un.write (mu:Mut (H x))(he:e=x∨H e=Za (.own x))(k:∀b u,b≠e->h.get? b=Za u->h'.get? b=Za u)(heo:∃u,h'.get? e=Za u):Un fs ex H (upd H x o) h h':=by
 have hx:∀b,H b=Zb->b≠x:=λ b n z=>by subst z;rw[n] at mu;exact mu
 have hb:∀b,H b=Zb->b≠e:=λ b n z=>by
  subst z
  rcases he with r|r
  ·exact hx b n r
  ·rw[n] at r;cases r
 have hm:∀b u,H b=Za u->¬Mut (Za u)->b≠x:=λ b u q nm z=>by subst z;rw[q] at mu;exact nm mu
 refine⟨λ b u q n _ _=>k b u (hb b n) q,λ b u q n _ _=>⟨u.slots,k b u (hb b n) q⟩,λ b u q n _=>by rw[Jo (hx b n)];exact n,λ b u q _=>?_,
  λ b xs q=>by rw[Jo (hm b _ q λ z=>z)];exact q,λ b u xs q=>by rw[Jo (hm b _ q λ z=>z)];exact q,λ b ps q=>⟨#[],by rw[Jo (hm b _ q λ z=>z),q];simp⟩⟩
 by_cases hbe:b=e
 ·subst hbe;exact heo
 ·exact⟨u,k b u hbe q⟩
theorem Un.mono (u:Un fs ex H H1 h h1)(hs:∀b∈fs,b∈fs')(hx:∀b∈ex,b∈ex'):Un fs' ex' H H1 h h1 :=
 ⟨λ b ob q n hb he=>u.keep b ob q n (λ z=>hb (hs b z)) λ z=>he (hx b z),λ _ _ q n _ he=>u.any q n λ z=>he (hx _ z),λ b ob q n he=>u.free b ob q n λ z=>he (hx b z),λ b ob q he=>u.there b ob q λ z=>he (hx b z),u.tups,u.frzs,u.tbls⟩
end
def trk (h:ZT)(H:Hp):List Zi:=(Z8 h.objs.size).filter λ a=>(H a).isSome
def hidT (h:ZT)(H:Hp):ZT:=W.hideAll h (trk h H)
theorem Jor (h:ZT)(H:Hp):(hidT h H).objs.size=h.objs.size:=W.hideAll_size _ _
theorem Jrs {h:ZT}{H:Hp}{b:Zi}{o:Obj}(e:h.get? b=Za o)(n:H b=Zb):(hidT h H).get? b=Za o :=
 W.hideAll_get _ e λ hm=>by
  have q:(H b).isSome=Ze:=(ZL.mp hm).2
  rw[n] at q;simp at q
theorem Jv1 {h:ZT}{H:Hp}{b:Zi}{o:Obj}(e:(hidT h H).get? b=Za o):h.get? b=Za o/\H b=Zb:=by
 have e':h.get? b=Za o:=W.of_hideAll (trk h H) e
 refine⟨e',?_⟩
 cases q:H b with
 | none=>rfl
 | some x =>
  have hm:b∈trk h H:=ZL.mpr ⟨Zar.mpr (Zx e'),by simp[q]⟩
  have z:(hidT h H).get? b=Zb:=W.hideAll_none (trk h H) hm
  rw[z] at e;cases e
structure Mod (K:W.Frag)(mg:Str->Option Zd)(base:ZT):Prop where
 kin:K.In base
 glob:base.Ns Zm mg
 blt:∃mb,base.Ns Zcz mb/\∀x:Str,x≠"__name__"->mb x=Zbp x
 nolimit:base.NoLimit
structure Cx where
 prog:ZA
 w:ZM
 K:W.Frag
 mg:Str->Option Zd
 base:ZT
 A:ZG
 N:List Str
 s₀:Zk
 H₀:Hp
 env:Env
 outer:List Env
 stack:List Env
 ex:List Zi
 fn:Str->Bool
 calm:Bool
 pn:PnT
 xe:QvT
def frs (l:List Env):List Zi:=l.filterMap (·.frame)
abbrev Cx.fs (X:Cx):List Zi:=frs X.outer
def Vis (sc:Zba)(x:Str):Prop:=sc.names.lookup x=Za .local∨sc.names.lookup x=Za .cell∨sc.names.lookup x=Za .free
def Loc (sc:Zba)(x:Str):Prop:=sc.names.lookup x=Za .local∨sc.names.lookup x=Za .cell
def Look (env:Env)(h:ZT)(m:Str->Option Zd)(x:Str)(u:Zd):Prop :=
 (env.kindOf x=Za .local/\m x=Za u)∨((env.kindOf x=Za .cell∨env.kindOf x=Za .free)/\∃c,env.cells.lookup x=Za c/\h.IsCell c (Za u))
structure Cx.Ok (X:Cx):Prop where
 mod:Mod X.K X.mg X.base
 kind:X.env.scope.kind=.function
 glob:X.env.globals=Zm
 blt:X.env.builtins=Zcz
 above:X.s₀.heap.objs.size<=X.env.locals
 inj:∀x y c,X.env.cells.lookup x=Za c->X.env.cells.lookup y=Za c->x=y
 has:∀x,(X.env.kindOf x=Za .cell∨X.env.kindOf x=Za .free)->∃c,X.env.cells.lookup x=Za c
 cab:∀x c,X.fn x=Ze->X.env.cells.lookup x=Za c->X.s₀.heap.objs.size<=c
 hd:X.calm=Ze->X.A.handled=Zb
 frames:X.A.frames=Za X.stack
 stk:X.stack=X.outer∨(X.stack=X.env::X.outer/\X.env.frame=Za X.env.locals)
 exf:∀b∈X.ex,b≠X.env.locals/\∀x c,X.env.cells.lookup x=Za c->c≠b
 bs:∀b o,X.base.get? b=Za o->X.s₀.heap.get? b=Za o/\X.H₀ b=Zb
 bsz:X.base.objs.size<=X.s₀.heap.objs.size
 noex:∀b o,X.base.get? b=Za o->b∉X.ex
 exfs:∀b∈X.ex,b∉X.fs
 funs:X.s₀.heap.FunFrames X.base X.outer
 frf:∀b∈X.fs,X.H₀ b=Zb
structure Inv (X:Cx)(pj:PnT)(σ:List (Option V))(H:Hp)(s:Zk):Prop where
 ok:X.Ok
 os:s.os=X.s₀.os
 bare:Zdh s.gens
 base:Un X.fs X.ex X.H₀ H X.s₀.heap s.heap
 loc:∃m,s.heap.Ns X.env.locals m/\∀(i:Nat)(x:Str)(v:V),X.N[i]?=Za x->σ[i]?=Za (Za v)->Vis X.env.scope x->∃u,RelV v u/\Look X.env s.heap m x u
 cell:∀x c,X.env.cells.lookup x=Za c->∃v,s.heap.IsCell c v
 free:H X.env.locals=Zb
 freeC:∀x c,X.env.cells.lookup x=Za c->H c=Zb
 pin:∀p∈X.pn++pj,s.heap.get? p.1=Za p.2/\H p.1=Zb/\p.1≠X.env.locals/\p.1∉X.fs/\∀v,p.2.data≠.cell v
 hok:HOk X.prog X.w H s.heap
 len:σ.length=X.N.length
section
variable {X:Cx}{pj:PnT}{σ:List (Option V)}{H H':Hp}{s:Zk}{h':ZT}
theorem Cx.Ok.nofr (ok:X.Ok){b:Zi}{o:Obj}(e:X.base.get? b=Za o):b∉X.fs:=λ hb=>by
 have:=(ok.funs.mem hb).1
 rw[e] at this;cases this
theorem Inv.bs (I:Inv X pj σ H s):∀b o,X.base.get? b=Za o->s.heap.get? b=Za o/\H b=Zb:=λ b o e =>
 ⟨I.base.keep b o (I.ok.bs b o e).1 (I.ok.bs b o e).2 (I.ok.nofr e) (I.ok.noex b o e),I.base.free b o (I.ok.bs b o e).1 (I.ok.bs b o e).2 (I.ok.noex b o e)⟩
theorem Inv.bk (I:Inv X pj σ H s):∀b o,X.base.get? b=Za o->s.heap.get? b=Za o:=λ b o e=>(I.bs b o e).1
theorem Inv.mod (I:Inv X pj σ H s):Mod X.K X.mg X.base:=I.ok.mod
theorem Inv.kIn (I:Inv X pj σ H s):X.K.In s.heap:=I.ok.mod.kin.keeps I.bk
theorem Inv.nolimit (I:Inv X pj σ H s):s.heap.NoLimit:=I.ok.mod.nolimit.keeps I.bk
theorem Inv.fr (I:Inv X pj σ H s):∃m,Fr X.base X.env.locals s.heap m :=
 let ⟨m,hn,_⟩:=I.loc
 ⟨m,hn,I.bk,Zah I.ok.bsz I.ok.above⟩
theorem Inv.lt (I:Inv X pj σ H s):X.env.locals<s.heap.objs.size:=let ⟨_,hn,_⟩:=I.loc;hn.lt
theorem Inv.sz (I:Inv X pj σ H s):X.s₀.heap.objs.size<=s.heap.objs.size:=Zah I.ok.above (Zc6 I.lt)
theorem Inv.nofs (I:Inv X pj σ H s){a:Zi}(h:s.heap.objs.size<=a):a∉X.fs:=λ hb=>by
 obtain⟨_,o,ho,_⟩:=I.ok.funs.mem hb
 exact absurd (ZJ (Zx ho) (Zah I.sz h)) (Zcr _)
theorem Inv.cne (I:Inv X pj σ H s):∀x c,X.env.cells.lookup x=Za c->c≠X.env.locals:=λ x c e z=>by
 obtain⟨v,o,ho,hd⟩:=I.cell x c e
 obtain⟨m,⟨o',es,ep,ho',hd',_⟩,_⟩:=I.loc
 rw[z,ho'] at ho;cases ho;rw[hd'] at hd;cases hd
theorem Inv.funs (I:Inv X pj σ H s):s.heap.FunFrames X.base X.outer:=by
 have all:∀(l:List Env),(∀b∈frs l,b∈X.fs)->X.s₀.heap.FunFrames X.base l->s.heap.FunFrames X.base l:=by
  intro l
  induction l with
  | nil=>intro _ _;trivial
  | cons env r ih =>
   intro hs hl
   obtain⟨hk,⟨L,o,hf,hn,ho,hd⟩,hr⟩:=hl
   have hL:L∈X.fs:=hs L (by unfold frs;rw[Zco,hf];exact Zv)
   obtain⟨sl,e⟩:=I.base.slot L o ho (I.ok.frf L hL) hL λ z=>I.ok.exfs L z hL
   exact⟨hk,⟨L,_,hf,hn,e,hd⟩,ih (λ b hb=>hs b (by unfold frs;rw[Zco,hf];exact Zt _ hb)) hr⟩
 exact all X.outer (λ _ hb=>hb) I.ok.funs
theorem Inv.stack (I:Inv X pj σ H s):s.heap.FunFrames X.base X.stack:=by
 rcases I.ok.stk with e|⟨e,hf⟩
 ·rw[e];exact I.funs
 ·rw[e]
  obtain⟨m,hn,_⟩:=I.loc
  refine .cons (by rw[I.ok.kind];decide) hf hn ?_ I.funs
  exact Zca (Zah I.ok.bsz I.ok.above)
theorem Inv.stkSub (I:Inv X pj σ H s):∀b∈frs X.stack,b∈X.env.locals::X.fs:=λ b hb=>by
 rcases I.ok.stk with e|⟨e,hf⟩
 ·rw[e] at hb;exact Zt _ hb
 ·rw[e] at hb
  unfold frs at hb
  rw[Zco,hf] at hb
  exact hb
theorem Inv.stkFree (I:Inv X pj σ H s):∀b∈frs X.stack,H b=Zb:=λ b hb=>by
 rcases ZB.mp (I.stkSub b hb) with e|hb
 ·rw[e];exact I.free
 ·obtain⟨_,o,ho,_⟩:=I.ok.funs.mem hb
  exact I.base.free b o ho (I.ok.frf b hb) λ z=>I.ok.exfs b z hb
theorem Inv.step {g':Array Ze3}{t':Nat}{d':Drawn}{ch:List Zi}(I:Inv X pj σ H s)
  (hch:∀b∈ch,(b∈X.ex∨X.s₀.heap.objs.size<=b)/\b≠X.env.locals/\(∀x c,X.env.cells.lookup x=Za c->c≠b)/\∀p∈X.pn++pj,p.1≠b)
  (keep:∀b o,b≠X.env.locals->b∉X.fs->b∉ch->s.heap.get? b=Za o->H b=Zb->h'.get? b=Za o)
  (slot:∀b o,b≠X.env.locals->b∈X.fs->b∉ch->s.heap.get? b=Za o->H b=Zb->∃sl,h'.get? b=Za { o with slots:=sl })(free:∀b o,b∉ch->s.heap.get? b=Za o->H b=Zb->H' b=Zb)
  (there:∀b o,b∉ch->s.heap.get? b=Za o->∃o',h'.get? b=Za o')
  (tups:∀b xs,H b=Za (.tup xs)->H' b=Za (.tup xs))(frzs:∀b o u,H b=Za (.frz o u)->H' b=Za (.frz o u))(tbls:∀b ps,H b=Za (.tbl ps)->∃more,H' b=Za (.tbl (ps++more)))
  (ns:∀m,s.heap.Ns X.env.locals m->h'.Ns X.env.locals m)(hok:HOk X.prog X.w H' h')(hg:Zdh g') :
  Inv X pj σ H' { s with heap:=h',gens:=g',drawn:=d',toks:=t' }:=by
 have neL:∀b o,X.s₀.heap.get? b=Za o->b≠X.env.locals:=λ b o e=>ZD (ZJ (Zx e) I.ok.above)
 have neC:∀b o,X.s₀.heap.get? b=Za o->b∉X.ex->b∉ch:=λ b o e hx hb=>by
  rcases(hch b hb).1 with z|z
  ·exact hx z
  ·exact absurd (ZJ (Zx e) z) (Zcr _)
 have cellK:∀x c,X.env.cells.lookup x=Za c->∀v,s.heap.IsCell c v->h'.IsCell c v:=λ x c e v ⟨o,ho,hd⟩=>by
  have nch:c∉ch:=λ z=>(hch c z).2.2.1 x c e rfl
  by_cases hc:c∈X.fs
  ·obtain⟨sl,q⟩:=slot c o (I.cne x c e) hc nch ho (I.freeC x c e)
   exact⟨_,q,hd⟩
  ·exact⟨o,keep c o (I.cne x c e) hc nch ho (I.freeC x c e),hd⟩
 refine⟨I.ok,I.os,hg,⟨λ b o e n hb hx=>?_,λ b o e n hb hx=>?_,λ b o e n hx=>?_,λ b o e hx=>?_,λ b xs e=>tups b xs (I.base.tups b xs e),λ b o xs e=>frzs b o xs (I.base.frzs b o xs e),λ b ps e=>?_⟩,?_,λ x c e=>?_,?_,λ x c e=>?_,λ p hp=>?_,hok,I.len⟩
 ·exact keep b o (neL b o e) hb (neC b o e hx) (I.base.keep b o e n hb hx) (I.base.free b o e n hx)
 ·obtain⟨sl,e1⟩:=I.base.slot b o e n hb hx
  obtain⟨sl',e2⟩:=slot b _ (neL b o e) hb (neC b o e hx) e1 (I.base.free b o e n hx)
  exact⟨sl',e2⟩
 ·obtain⟨o',e1⟩:=I.base.there b o e hx
  exact free b o' (neC b o e hx) e1 (I.base.free b o e n hx)
 ·obtain⟨o',e1⟩:=I.base.there b o e hx
  exact there b o' (neC b o e hx) e1
 ·obtain⟨m1,e1⟩:=I.base.tbls b ps e
  obtain⟨m2,e2⟩:=tbls b _ e1
  exact⟨m1++m2,by rw[e2,Zdp]⟩
 ·obtain⟨m,hn,hl⟩:=I.loc
  refine⟨m,ns m hn,λ i x v e1 e2 e3=>?_⟩
  obtain⟨u,r,l⟩:=hl i x v e1 e2 e3
  refine⟨u,r,?_⟩
  rcases l with l|⟨k,c,e,z⟩
  ·exact .inl l
  ·exact .inr ⟨k,c,e,cellK x c e _ z⟩
 ·obtain⟨v,z⟩:=I.cell x c e
  exact⟨v,cellK x c e v z⟩
 ·obtain⟨m,⟨o,_,_,ho,_⟩,_⟩:=I.loc
  exact free _ o (λ z=>(hch _ z).2.1 rfl) ho I.free
 ·obtain⟨v,o,ho,hd⟩:=I.cell x c e
  exact free c o (λ z=>(hch c z).2.2.1 x c e rfl) ho (I.freeC x c e)
 ·obtain⟨e,n,ne,nf,d⟩:=I.pin p hp
  have nch:p.1∉ch:=λ z=>(hch p.1 z).2.2.2 p hp rfl
  exact⟨keep p.1 p.2 ne nf nch e n,free p.1 p.2 nch e n,ne,nf,d⟩
theorem Inv.un {t':Nat}(I:Inv X pj σ H s)(u:Un X.fs [] H H' s.heap h')(hok:HOk X.prog X.w H' h'):Inv X pj σ H' { s with heap:=h',toks:=t' }:=by
 obtain⟨m,⟨o,es,ep,ho,r⟩,_⟩:=id I.loc
 obtain⟨sl,hL⟩:=u.any ho I.free (by simp)
 exact I.step (g':=s.gens) (d':=s.drawn) (ch:=[]) (λ _ z=>nomatch z) (λ b o _ hb _ e n=>u.keep b o e n hb (by simp)) (λ b o _ hb _ e n=>u.slot b o e n hb (by simp)) (λ b o _ e n=>u.free b o e n (by simp)) (λ b o _ e=>u.there b o e (by simp)) u.tups u.frzs u.tbls (λ m' hm=>by
  obtain⟨o',es',ep',ho',r'⟩:=hm
  rw[ho] at ho';cases ho'
  exact⟨_,es',ep',hL,r'⟩) hok I.bare
theorem Inv.call {g':Array Ze3}{t':Nat}{d':Drawn}{ch:List Zi}(I:Inv X pj σ H s)(u:Un (frs X.stack) ch H H' s.heap h')(hok:HOk X.prog X.w H' h')(hg:Zdh g')
  (hch:∀b∈ch,(b∈X.ex∨X.s₀.heap.objs.size<=b)/\b≠X.env.locals/\(∀x c,X.env.cells.lookup x=Za c->c≠b)/\∀p∈X.pn++pj,p.1≠b) :
  Inv X pj σ H' { s with heap:=h',gens:=g',drawn:=d',toks:=t' }:=by
 obtain⟨m,⟨o,es,ep,ho,r⟩,_⟩:=id I.loc
 obtain⟨sl,hL⟩:=u.any ho I.free λ z=>(hch _ z).2.1 rfl
 exact I.step (ch:=ch) hch (λ b o hL hb hc e n=>u.keep b o e n (λ z=>(ZB.mp (I.stkSub b z)).elim hL hb) hc) (λ b o _ _ hc e n=>u.any e n hc) (λ b o hc e n=>u.free b o e n hc) (λ b o hc e=>u.there b o e hc) u.tups u.frzs u.tbls (λ m' hm=>by
  obtain⟨o',es',ep',ho',r'⟩:=hm
  rw[ho] at ho';cases ho'
  exact⟨_,es',ep',hL,r'⟩) hok hg
theorem Inv.turned {t':Nat}{it:Zi}(I:Inv X pj σ H s)(k:∀b o,b≠it->s.heap.get? b=Za o->h'.get? b=Za o)(hn:H it=Zb)(hL:it≠X.env.locals)
  (h1:it∈X.ex∨X.s₀.heap.objs.size<=it)(h2:∀x c,X.env.cells.lookup x=Za c->c≠it)(h3:∀p∈X.pn++pj,p.1≠it):Inv X pj σ H { s with heap:=h',toks:=t' }:=by
 have nit:∀b u,H b=Za u->b≠it:=λ b u e z=>by rw[z,hn] at e;cases e
 refine I.step (g':=s.gens) (d':=s.drawn) (ch:=[it]) (λ b hb=>?_) (λ b o _ _ hc e _=>k b o (λ z=>hc (by simp[z])) e) (λ b o _ _ hc e _=>⟨o.slots,k b o (λ z=>hc (by simp[z])) e⟩) (λ _ _ _ _ n=>n)
  (λ b o hc e=>⟨o,k b o (λ z=>hc (by simp[z])) e⟩) (λ _ _ e=>e) (λ _ _ _ e=>e) (λ b ps e=>⟨#[],by rw[e];simp⟩) (λ m hm=>?_) (λ b u e=>?_) I.bare
 ·have e:b=it:=by simpa using hb
  subst e
  exact⟨h1,hL,h2,h3⟩
 ·obtain⟨o,es,ep,ho,r⟩:=hm
  exact⟨o,es,ep,k _ o (ZW hL) ho,r⟩
 ·refine(I.hok b u e).stay (λ c v hc q=>k c v ?_ q) (λ _ q=>q) λ _ _ q=>q
  rcases hc with z|z
  ·rw[z];exact nit b u e
  ·exact nit c _ z
theorem Inv.tok (I:Inv X pj σ H s)(t:Nat):Inv X pj σ H { s with toks:=t }:=I.un (h':=s.heap) (t':=t) Un.refl I.hok
theorem Inv.kept {t':Nat}(I:Inv X pj σ H s)(k:∀b u,s.heap.get? b=Za u->h'.get? b=Za u):Inv X pj σ H { s with heap:=h',toks:=t' }:=I.un (Un.kept k) (I.hok.kept k)
theorem Inv.laid {a:Zi}{o:HO}{t':Nat}(I:Inv X pj σ H s)(k:∀b u,s.heap.get? b=Za u->h'.get? b=Za u)(hp:s.heap.objs.size<=a)(new:JE X.prog X.w (upd H a o) h' a o) :
  Inv X pj σ (upd H a o) { s with heap:=h',toks:=t' }:=I.un (Un.laid k hp (I.hok.fresh hp)) (I.hok.laid k hp new)
theorem Inv.write {x e:Zi}{o:HO}{t':Nat}(I:Inv X pj σ H s)(mu:Mut (H x))(he:e=x∨H e=Za (.own x))(k:∀b u,b≠e->s.heap.get? b=Za u->h'.get? b=Za u)(heo:∃u,h'.get? e=Za u)
  (new:JE X.prog X.w (upd H x o) h' x o):Inv X pj σ (upd H x o) { s with heap:=h',toks:=t' }:=I.un (Un.write mu he k heo) (I.hok.write mu he k heo new)
theorem Inv.weak {σ':List (Option V)}(I:Inv X pj σ H s)(hl:σ'.length=σ.length)(w:∀(i:Nat) v,σ'[i]?=Za (Za v)->σ[i]?=Za (Za v)):Inv X pj σ' H s :=
 ⟨I.ok,I.os,I.bare,I.base,let ⟨m,hn,hl'⟩:=I.loc;⟨m,hn,λ i x v e1 e2 e3=>hl' i x v e1 (w i v e2) e3⟩,I.cell,I.free,I.freeC,I.pin,I.hok,hl.trans I.len⟩
theorem Inv.pins_of {pj':PnT}(I:Inv X pj σ H s)(h:∀p∈pj',s.heap.get? p.1=Za p.2/\H p.1=Zb/\p.1≠X.env.locals/\p.1∉X.fs/\∀v,p.2.data≠.cell v):Inv X pj' σ H s :=
 ⟨I.ok,I.os,I.bare,I.base,I.loc,I.cell,I.free,I.freeC,λ p hp=>(ZO.mp hp).elim (λ z=>I.pin p (Zab _ z)) (h p),I.hok,I.len⟩
theorem Jh0 {N:List Str}(hN:N.Nodup){i j:Nat}{x:Str}(a:N[i]?=Za x)(b:N[j]?=Za x):i=j:=by
 obtain⟨h1,e1⟩:=Zn.mp a
 obtain⟨h2,e2⟩:=Zn.mp b
 exact(ZdF hN).mp (e1.trans e2.symm)
theorem Jpx {M:Ze4}{A:ZG}{E:QvT}{i:Nat}{x:Str}{v:V}{u:Zd}{Q:Unit->Zk->Prop}(I:Inv X pj σ H s)(hN:X.N.Nodup)(hi:X.N[i]?=Za x)(hx:Loc X.env.scope x)(r:RelV v u)
  (h:∀s',Inv X pj (σ.set i (Za v)) H s'->(∃a,Zc7 a s.heap s'.heap/\(a=X.env.locals∨X.env.cells.lookup x=Za a))->Q () s')(hf:X.fn x=Ze∨X.env.scope.names.lookup x=Za .local:=by assumption):Zq M A (storeName X.env x u) Q E s:=by
 obtain⟨m,hn,hl⟩:=id I.loc
 have hcls:(X.env.scope.kind==.class||(X.env.scope.kind==.module&&X.env.locals != X.env.globals))=Zj:=by rw[I.ok.kind];rfl
 have hiσ:i<σ.length:=by rw[I.len];exact(Zn.mp hi).1
 have cne:=I.cne
 have tracked:∀{a:Zi}{h':ZT},(∃o,s.heap.get? a=Za o/\H a=Zb)->Zc7 a s.heap h'->HOk X.prog X.w H h':=λ {a h'} ha hs b ob e=>by
  obtain⟨_,_,hfree⟩:=ha
  refine(I.hok b ob e).stay (λ c w' hc q=>(hs.2 c ?_).trans q) (λ _ q=>q) λ _ _ q=>q
  rintro rfl
  rcases hc with rfl|hc
  ·rw[hfree] at e;cases e
  ·rw[hfree] at hc;cases hc
 rcases hx with hk|hk
 ·refine wpAny_storeName_local hk hn (λ h' hn' hs=>?_) hcls
  obtain⟨oL,_,_,hoL,_⟩:=id hn
  refine h _ ⟨I.ok,I.os,I.bare,⟨λ b o e n hb hx=>?_,λ b o e n hb hx=>?_,I.base.free,λ b o e hx=>?_,I.base.tups,I.base.frzs,I.base.tbls⟩,⟨_,hn',λ j y v' e1 e2 e3=>?_⟩,λ y c e=>?_,I.free,I.freeC,λ p hp=>?_,tracked ⟨oL,hoL,I.free⟩ hs,by simpa using I.len⟩ ⟨_,hs,.inl rfl⟩
  ·exact(hs.2 b (ZD (ZJ (Zx e) I.ok.above))).trans (I.base.keep b o e n hb hx)
  ·obtain⟨sl,e1⟩:=I.base.slot b o e n hb hx
   exact⟨sl,(hs.2 b (ZD (ZJ (Zx e) I.ok.above))).trans e1⟩
  ·obtain⟨o',e1⟩:=I.base.there b o e hx
   exact⟨o',(hs.2 b (ZD (ZJ (Zx e) I.ok.above))).trans e1⟩
  ·by_cases hj:j=i
   ·subst hj
    rw[hi] at e1;cases e1
    rw[ZX hiσ] at e2
    cases e2
    exact⟨u,r,.inl ⟨hk,by simp⟩⟩
   ·rw[ZZ (ZW hj)] at e2
    obtain⟨u',r',q⟩:=hl j y v' e1 e2 e3
    refine⟨u',r',?_⟩
    rcases q with⟨k,e⟩|⟨k,c,e,z⟩
    ·refine .inl ⟨k,?_⟩
     have:y≠x:=λ e=>hj (Jh0 hN e1 (e▸hi))
     simp[this,e]
    ·exact .inr ⟨k,c,e,z.sameBut hs (cne y c e)⟩
  ·obtain⟨w',z⟩:=I.cell y c e
   exact⟨w',z.sameBut hs (cne y c e)⟩
  ·obtain⟨e,n,ne,nf,d⟩:=I.pin p hp
   exact⟨(hs.2 p.1 ne).trans e,n,ne,nf,d⟩
 ·have hfn:X.fn x=Ze:=by
   rcases hf with z|z
   ·exact z
   ·rw[z] at hk;cases hk
  obtain⟨c,hc⟩:=I.ok.has x (.inl hk)
  obtain⟨w',z⟩:=I.cell x c hc
  refine wpAny_storeName_cell I.ok.kind hk hc z (λ h' hc' hs=>?_)
  obtain⟨oc,hoc,hocd⟩:=id z
  refine h { s with heap:=h' } ⟨I.ok,I.os,I.bare,⟨λ b o e n hb hx=>?_,λ b o e n hb hx=>?_,I.base.free,λ b o e hx=>?_,I.base.tups,I.base.frzs,I.base.tbls⟩,⟨m,hn.sameBut hs (ZW (cne x c hc)),λ j y v' e1 e2 e3=>?_⟩,λ y c' e=>?_,I.free,I.freeC,λ p hp=>?_,tracked ⟨oc,hoc,I.freeC x c hc⟩ hs,by simpa using I.len⟩ ⟨c,hs,.inr hc⟩
  ·exact(hs.2 b (ZD (ZJ (Zx e) (I.ok.cab x c hfn hc)))).trans (I.base.keep b o e n hb hx)
  ·obtain⟨sl,e1⟩:=I.base.slot b o e n hb hx
   exact⟨sl,(hs.2 b (ZD (ZJ (Zx e) (I.ok.cab x c hfn hc)))).trans e1⟩
  ·obtain⟨o',e1⟩:=I.base.there b o e hx
   exact⟨o',(hs.2 b (ZD (ZJ (Zx e) (I.ok.cab x c hfn hc)))).trans e1⟩
  ·by_cases hj:j=i
   ·subst hj
    rw[hi] at e1;cases e1
    rw[ZX hiσ] at e2
    cases e2
    exact⟨u,r,.inr ⟨.inl hk,c,hc,hc'⟩⟩
   ·rw[ZZ (ZW hj)] at e2
    obtain⟨u',r',q⟩:=hl j y v' e1 e2 e3
    refine⟨u',r',?_⟩
    rcases q with q|⟨k,c',e,z'⟩
    ·exact .inl q
    ·refine .inr ⟨k,c',e,z'.sameBut hs ?_⟩
     rintro rfl
     exact hj (Jh0 hN e1 (I.ok.inj _ _ _ e hc▸hi))
  ·by_cases hcc:c'=c
   ·subst hcc;exact⟨_,hc'⟩
   ·obtain⟨w2,z2⟩:=I.cell y c' e
    exact⟨w2,z2.sameBut hs hcc⟩
  ·obtain⟨e,n,ne,nf,d⟩:=I.pin p hp
   refine⟨(hs.2 p.1 ?_).trans e,n,ne,nf,d⟩
   intro q
   rw[q,hoc] at e
   have q':oc=p.2:=Zaj e
   exact d w' (by rw[<- q'];exact hocd)
theorem XU {M:Ze4}{A:ZG}{E:QvT}{i:Nat}{x:Str}{v:V}{u:Zd}{Q:Unit->Zk->Prop}(I:Inv X pj σ H s)(hN:X.N.Nodup)(hi:X.N[i]?=Za x)(hx:Loc X.env.scope x)(r:RelV v u)
  (h:∀s',Inv X pj (σ.set i (Za v)) H s'->Q () s')(hf:X.fn x=Ze∨X.env.scope.names.lookup x=Za .local:=by assumption):Zq M A (storeName X.env x u) Q E s :=
 Jpx I hN hi hx r (λ s' I' _=>h s' I') hf
theorem Inv.call' {s':Zk}{ch:List Zi}(I:Inv X pj σ H s)(ho:s'.os=s.os)(u:Un (frs X.stack) ch H H' s.heap s'.heap)(hok:HOk X.prog X.w H' s'.heap)(hg:Zdh s'.gens)
  (hch:∀b∈ch,(b∈X.ex∨X.s₀.heap.objs.size<=b)/\b≠X.env.locals/\(∀x c,X.env.cells.lookup x=Za c->c≠b)/\∀p∈X.pn++pj,p.1≠b):Inv X pj σ H' s':=by
 obtain⟨h',g',d',t',o'⟩:=s'
 have e:o'=s.os:=ho
 subst e
 exact I.call (g':=g') (t':=t') (d':=d') u hok hg hch
end
abbrev XK:=Zd->Option Zi->Hp->Prop
abbrev St:=List (Option V)
abbrev VK:=V->Hp->Prop
abbrev TE:=St->Hp->VK->Prop
abbrev TT:=St->Hp->(Bool->Hp->Prop)->Prop
abbrev TA:=St->Hp->(List V->Hp->Prop)->Prop
structure Ends where
 nx:St->Hp->Prop
 rt:VK
 bk:St->Hp->Prop:=λ _ _=>False
 ct:St->Hp->Prop:=λ _ _=>False
abbrev TS:=Ends->St->Hp->Prop
def EP (X:Cx)(pj:PnT)(σ:St)(Q:VK)(u:Zd)(s':Zk):Prop:=∃v H',Inv X pj σ H' s'/\RelV v u/\Q v H'
def TP (X:Cx)(pj:PnT)(σ:St)(Q:Bool->Hp->Prop)(b:Bool)(s':Zk):Prop:=∃H',Inv X pj σ H' s'/\Q b H'
def SP (X:Cx)(pj:PnT)(D:Ends)(f:Flow)(s':Zk):Prop :=
 match f with
 | .next=>∃σ' H',Inv X pj σ' H' s'/\D.nx σ' H'
 | .brk=>∃σ' H',Inv X pj σ' H' s'/\D.bk σ' H'
 | .cont=>∃σ' H',Inv X pj σ' H' s'/\D.ct σ' H'
 | .ret u=>∃v σ' H',Inv X pj σ' H' s'/\RelV v u/\D.rt v H'
def PE (X:Cx)(e:Expr)(t:TE):Prop :=
 ∀(pj:PnT)(s:Zk)(σ:St)(H:Hp)(Q:VK),Inv X pj σ H s->t σ H Q->Zq (Z1 X.prog X.w) X.A (ZaJ e X.env) (EP X pj σ Q) X.xe s
def PT (X:Cx)(e:Expr)(t:TT):Prop :=
 ∀(pj:PnT)(s:Zk)(σ:St)(H:Hp)(Q:Bool->Hp->Prop),Inv X pj σ H s->t σ H Q->Zq (Z1 X.prog X.w) X.A (Zex e X.env (ZaJ e X.env)) (TP X pj σ Q) X.xe s
def PW (X:Cx)(e:Expr)(t:TT):Prop :=
 ∀(whole:Sem Zd)(pj:PnT)(s:Zk)(σ:St)(H:Hp)(Q:Bool->Hp->Prop),Inv X pj σ H s->t σ H Q->Zq (Z1 X.prog X.w) X.A (Zex e X.env whole) (TP X pj σ Q) X.xe s
theorem PW.pt {X:Cx}{e:Expr}{t:TT}(h:PW X e t):PT X e t:=h _
def PSs (X:Cx)(st:List Zbv)(t:TS):Prop :=
 ∀(pj:PnT)(s:Zk)(σ:St)(H:Hp)(D:Ends),Inv X pj σ H s->t D σ H->Zq (Z1 X.prog X.w) X.A (execs st X.env) (SP X pj D) X.xe s
theorem thn {α:Type}{t:Sem α}{Q Q':α->Zk->Prop}{M:Ze4}{A:ZG}{E:QvT}{s:Zk}(h:Zq M A t Q E s)(hQ:∀a s,Q a s->Q' a s):Zq M A t Q' E s:=ZP h hQ λ _ _ x=>x
section
variable {X:Cx}
def tVar (i:Nat):TE:=λ σ H Q=>∃v,σ[i]?=Za (Za v)/\Q v H
def tC (v:V):TE:=λ _ H Q=>Q v H
theorem Jzf {i:Nat}{x:Str}{pos:Pos}(hN:X.N[i]?=Za x)(hv:Vis X.env.scope x)(hd:(x==("__debug__":Str))=Zj:=by decide)(hcd:(x==("__classdict__":Str))=Zj:=by decide):PE X (.Name x pos) (tVar i):=by
 intro pj s σ H Q I h
 obtain⟨v,e,h⟩:=h
 obtain⟨m,hn,hl⟩:=I.loc
 obtain⟨u,r,l⟩:=hl i x v hN e hv
 have fin:EP X pj σ Q u s:=⟨v,H,I,r,h⟩
 rcases l with⟨hk,hm⟩|⟨hk,c,hc,hcell⟩
 ·exact wpAny_Name (wpAny_loadName_local I.ok.kind hk hn hm fin) hd
 ·rcases hk with hk|hk
  ·exact wpAny_Name (wpAny_loadName_cell I.ok.kind hk hc hcell fin) hd
  ·exact wpAny_Name (wpAny_loadName_free I.ok.kind hk hc hcell fin hcd) hd
theorem Jzc {i j pos}:PE X (.Constant (.int i) j pos) (tC (.int i)):=λ _ _ _ H _ I h=>wpAny_Constant_int ⟨.int i,H,I.tok _,⟨_,rfl⟩,h⟩
theorem J1g {b j pos}:PE X (.Constant (.bool b) j pos) (tC (.bl b)):=λ _ _ _ H _ I h=>Constant_bool ⟨.bl b,H,I,rfl,h⟩
theorem Jzd {j pos}:PE X (.Constant .none j pos) (tC .non):=λ _ _ _ H _ I h=>Constant_none ⟨.non,H,I,rfl,h⟩
theorem Jze {x j pos}:PE X (.Constant (.str x) j pos) (tC (.str x)):=λ _ _ _ H _ I h=>Calls.Constant_str ⟨.str x,H,I.tok _,⟨_,rfl⟩,h⟩
def Gl (X:Cx)(x:Str):Prop:=X.env.kindOf x=Za .globalImplicit
theorem QP {E:QvT}{pj:PnT}{s:Zk}{σ:St}{H:Hp}{x:Str}{u:Zd}{pos:Pos}{Q:QvT}(I:Inv X pj σ H s)(hg:Gl X x)(hm:X.mg x=Za u)(h:Q u s)
  (hd:(x==("__debug__":Str))=Zj:=by decide):Zq (Z1 X.prog X.w) X.A (ZaJ (.Name x pos) X.env) Q E s :=
 Zdq I.ok.kind hg (Calls.loadGlobal_global (by rw[I.ok.glob];exact I.mod.glob.keeps I.bk) hm h) hd
theorem Qg {E:QvT}{pj:PnT}{s:Zk}{σ:St}{H:Hp}{x:Str}{u:Zd}{pos:Pos}{Q:QvT}(I:Inv X pj σ H s)(hg:Gl X x)(hm:X.mg x=Zb)(hv:Zbp x=Za u)(h:Q u s)
  (hn:x≠"__name__":=by decide)(hd:(x==("__debug__":Str))=Zj:=by decide):Zq (Z1 X.prog X.w) X.A (ZaJ (.Name x pos) X.env) Q E s:=by
 obtain⟨mb,h1,h2⟩:=I.mod.blt
 exact Zdq I.ok.kind hg (Calls.loadGlobal_builtin (by rw[I.ok.glob];exact I.mod.glob.keeps I.bk) hm (by rw[I.ok.blt];exact h1.keeps I.bk) ((h2 x hn).trans hv) h) hd
theorem Jv7 {x:Str}{v:V}{u:Zd}{pos:Pos}(hg:Gl X x)(hm:X.mg x=Za u)(r:RelV v u)(hd:(x==("__debug__":Str))=Zj:=by decide):PE X (.Name x pos) (tC v) :=
 λ _ _ _ H _ I h=>QP I hg hm ⟨v,H,I,r,h⟩ hd
variable {a b:Expr}{ta tb:TE}{pos:Pos}
variable {tA tB':TT}{rest:List Expr}
end
def SqL (K:W.Frag)(H:Hp)(a:Zi)(xs:List V):Prop :=
 Rd H a (.lst xs) ∨
  ∃(o:Obj) (its:Array Zd) (n:Nat),K.lookup a=Za o/\o.cls=.type "list"/\o.dict=Zb/\o.data=.seq its n/\its.size<=sizeLine/\Vals xs its.toList
def SqT (K:W.Frag)(H:Hp)(a:Zi)(xs:List V):Prop :=
 Rd H a (.tup xs) ∨
  ∃(o:Obj) (its:Array Zd) (n:Nat),K.lookup a=Za o/\o.cls=.type "tuple"/\o.data=.seq its n/\its.size<=sizeLine/\Vals xs its.toList
def absV:Zd->Option V
 | .none=>Za .non
 | .bool b=>Za (.bl b)
 | .int i _=>Za (.int i)
 | .str x _=>Za (.str x)
 | .bytes b _=>Za (.byt b)
 | .float b _=>Za (.flt b)
 | .ref a=>Za (.ref a)
 | .type n=>Za (.ty n)
 | _=>Zb
theorem RelV.abs {x:V}{u:Zd}(r:RelV x u):absV u=Za x:=by
 cases x with
 | non=>cases r;rfl
 | bl _=>cases r;rfl
 | int _=>obtain⟨t,rfl⟩:=r;rfl
 | str _=>obtain⟨t,rfl⟩:=r;rfl
 | byt _=>obtain⟨t,rfl⟩:=r;rfl
 | flt _=>obtain⟨t,rfl⟩:=r;rfl
 | ref _=>cases r;rfl
 | ty _=>cases r;rfl
theorem RelV.inj {x y:V}{u:Zd}(r:RelV x u)(q:RelV y u):x=y:=Zaj (r.abs.symm.trans q.abs)
theorem Vals.inj:∀{xs ys:List V}{us:List Zd},Vals xs us->Vals ys us->xs=ys
 | _,_,_,.nil,.nil=>rfl
 | _,_,_,.cons r t,.cons r' t'=>by rw[r.inj r',Vals.inj t t']
section
variable {X:Cx}{pj:PnT}{σ:St}{H:Hp}{s:Zk}{a:Zi}{xs ys:List V}
theorem SqL.of {K:W.Frag}(h:H a=Za (.lst xs)):SqL K H a xs:=.inl (.inl h)
theorem SqT.of {K:W.Frag}(h:H a=Za (.tup xs)):SqT K H a xs:=.inl (.inl h)
theorem Inv.list (I:Inv X pj σ H s)(h:SqL X.K H a xs):∃its:List Zd,Vals xs its/\PlainL s.heap a its.toArray/\xs.length<=sizeLine:=by
 rcases h with h|⟨o,its,n,hk,hc,hd,hs,hz,r⟩
 ·obtain⟨z,its,n,r,e⟩:=h.ok I.hok
  exact⟨its,r,⟨_,n,e,rfl,rfl,rfl⟩,z⟩
 ·refine⟨its.toList,r,⟨o,n,I.kIn a o hk,hc,hd,by simpa using hs⟩,?_⟩
  have e:=r.length
  simp only[Zdf] at e
  omega
theorem Inv.tuple (I:Inv X pj σ H s)(h:SqT X.K H a xs):∃its:List Zd,Vals xs its/\IsTup s.heap a its.toArray/\xs.length<=sizeLine:=by
 rcases h with h|⟨o,its,n,hk,hc,hs,hz,r⟩
 ·obtain⟨z,its,r,p⟩:=h.ok I.hok
  exact⟨its,r,p,z⟩
 ·refine⟨its.toList,r,⟨o,I.kIn a o hk,hc,n,by simpa using hs⟩,?_⟩
  have e:=r.length
  simp only[Zdf] at e
  omega
theorem Inv.list_inj (I:Inv X pj σ H s)(h:SqL X.K H a xs)(h':SqL X.K H a ys):xs=ys:=by
 obtain⟨its,r,⟨o,n,e,_,_,d⟩,_⟩:=I.list h
 obtain⟨its',r',⟨o',n',e',_,_,d'⟩,_⟩:=I.list h'
 rw[e] at e';cases e'
 rw[d] at d'
 injection d' with d1 _
 have:its=its':=by simpa using congrArg Array.toList d1
 subst this
 exact r.inj r'
theorem Inv.tuple_inj (I:Inv X pj σ H s)(h:SqT X.K H a xs)(h':SqT X.K H a ys):xs=ys:=by
 obtain⟨its,r,⟨o,e,_,n,d⟩,_⟩:=I.tuple h
 obtain⟨its',r',⟨o',e',_,n',d'⟩,_⟩:=I.tuple h'
 rw[e] at e';cases e'
 rw[d] at d'
 injection d' with d1 _
 have:its=its':=by simpa using congrArg Array.toList d1
 subst this
 exact r.inj r'
end
abbrev Cx.wish (X:Cx)(E:QvT):Cx:={ X with xe:=E }
abbrev Cx.nox (X:Cx):Cx:=X.wish λ _ _=>False
theorem Cx.Ok.wish {X:Cx}(ok:X.Ok)(E:QvT):(X.wish E).Ok :=
 ⟨ok.mod,ok.kind,ok.glob,ok.blt,ok.above,ok.inj,ok.has,ok.cab,ok.hd,ok.frames,ok.stk,ok.exf,ok.bs,ok.bsz,ok.noex,ok.exfs,ok.funs,ok.frf⟩
theorem Cx.Ok.unwish {X:Cx}{E:QvT}(ok:(X.wish E).Ok):X.Ok :=
 ⟨ok.mod,ok.kind,ok.glob,ok.blt,ok.above,ok.inj,ok.has,ok.cab,ok.hd,ok.frames,ok.stk,ok.exf,ok.bs,ok.bsz,ok.noex,ok.exfs,ok.funs,ok.frf⟩
section
variable {X:Cx}{pj:PnT}{σ:St}{H:Hp}{s:Zk}{E:QvT}
theorem Inv.wish (I:Inv X pj σ H s)(E:QvT):Inv (X.wish E) pj σ H s:=⟨I.ok.wish E,I.os,I.bare,I.base,I.loc,I.cell,I.free,I.freeC,I.pin,I.hok,I.len⟩
theorem Inv.unwish (I:Inv (X.wish E) pj σ H s):Inv X pj σ H s:=⟨I.ok.unwish,I.os,I.bare,I.base,I.loc,I.cell,I.free,I.freeC,I.pin,I.hok,I.len⟩
theorem SP.unwish {D:Ends}{f:Flow}{s':Zk}(h:SP (X.wish E) pj D f s'):SP X pj D f s':=by
 cases f with
 | next=>obtain⟨σ',H',I,q⟩:=h;exact⟨σ',H',I.unwish,q⟩
 | brk=>obtain⟨σ',H',I,q⟩:=h;exact⟨σ',H',I.unwish,q⟩
 | cont=>obtain⟨σ',H',I,q⟩:=h;exact⟨σ',H',I.unwish,q⟩
 | ret u=>obtain⟨v,σ',H',I,r,q⟩:=h;exact⟨v,σ',H',I.unwish,r,q⟩
theorem PE.nox {e:Expr}{t:TE}(h:PE X.nox e t):PE X e t:=λ pj s σ H Q I hw =>
 ZP (h pj s σ H Q (I.wish _) hw) (λ _ _ ⟨v,H',I',r,q⟩=>⟨v,H',I'.unwish,r,q⟩) λ _ _ z=>Za2 z
theorem PT.nox {e:Expr}{t:TT}(h:PT X.nox e t):PT X e t:=λ pj s σ H Q I hw =>
 ZP (h pj s σ H Q (I.wish _) hw) (λ _ _ ⟨H',I',q⟩=>⟨H',I'.unwish,q⟩) λ _ _ z=>Za2 z
theorem PSs.nox {st:List Zbv}{t:TS}(h:PSs X.nox st t):PSs X st t:=λ pj s σ H D I hw =>
 ZP (h pj s σ H D (I.wish _) hw) (λ _ _ q=>q.unwish) λ _ _ z=>Za2 z
end
section
variable {X:Cx}{st:Zbv}{rest:List Zbv}{t u:TS}{e:Expr}{te:TE}{pos:Pos}
theorem Inv.quiet {pj:PnT}{σ:St}{H:Hp}{s:Zk}(I:Inv X pj σ H s):interactive X.env=Zj:=by simp[interactive,I.ok.kind]
end
section
variable {X:Cx}{pos:Pos}
end
structure It where
 go:Nat->Hp->Prop
 yld:Nat->Hp->V->Hp->Prop
 stop:Nat->Hp->Prop
def FpOk (X:Cx)(pj:PnT)(H:Hp)(b:Zi):Prop :=
 H b=Zb/\b≠X.env.locals/\b∉X.fs/\(b∈X.ex∨X.s₀.heap.objs.size<=b)/\(∀x c,X.env.cells.lookup x=Za c->c≠b)/\∀p∈X.pn++pj,p.1≠b
theorem Inv.fpOk {X:Cx}{pj:PnT}{σ:St}{H H':Hp}{s:Zk}{b:Zi}(I:Inv X pj σ H s)(hb:s.heap.objs.size<=b)(hn:H' b=Zb):FpOk X pj H' b:=by
 refine⟨hn,Zbq (ZJ I.lt hb),I.nofs hb,.inr (Zah I.sz hb),λ x c e z=>?_,λ p hp z=>?_⟩
 ·obtain⟨v,q⟩:=I.cell x c e
  exact absurd (ZJ q.lt (by rw[z];exact hb)) (Zcr _)
 ·exact absurd (ZJ (Zx (I.pin p hp).1) (by rw[z];exact hb)) (Zcr _)
structure Turn (P:ZA)(w:ZM)(K:W.Frag)(tg:Expr)(J:It)(fp:List Zi)(it:Zi)(tn:Nat->ZT->Prop):Prop where
 mem:it∈fp
 obj:∀i h,tn i h->∀b∈fp,∃o,h.get? b=Za o/\∀v,o.data≠.cell v
 keep:∀i h h',tn i h->(∀b∈fp,∀o,h.get? b=Za o->h'.get? b=Za o)->tn i h'
 item:∀(X:Cx),X.prog=P->X.w=w->X.K=K->X.calm=Ze->∀(i:Nat)(pj:PnT)(s:Zk)(σ:St)(H:Hp)(E:QvT),Inv X pj σ H s->(∀b∈fp,FpOk X pj H b)->tn i s.heap->J.go i H ->
  Zq (Z1 P w) X.A (Zcp (.ref it)) (λ r s1=>∃u,r=Za u /\
   Zq (Z1 P w) X.A (Zcv tg (.ref it) u) (λ _ s2=>∃x H',Inv X pj σ H' s2/\RelV x u/\J.yld i H x H'/\tn (i+1) s2.heap/\∀b∈fp,H' b=Zb) E s1) E s
 done:∀(X:Cx),X.prog=P->X.w=w->X.K=K->X.calm=Ze->∀(i:Nat)(pj:PnT)(s:Zk)(σ:St)(H:Hp)(E:QvT),Inv X pj σ H s->(∀b∈fp,FpOk X pj H b)->tn i s.heap->J.stop i H ->
  Zq (Z1 P w) X.A (Zcp (.ref it)) (λ r s1=>r=Zb/\Inv X pj σ H s1) E s
 self:∀(A:ZG)(i:Nat)(s:Zk)(Q:QvT)(E:QvT),tn i s.heap->Q (.ref it) s->Zq (Z1 P w) A (Zey (.ref it)) Q E s
def PIE (X:Cx)(pj:PnT)(σ:St)(tg:Expr)(R:It->Hp->Prop)(itv:Zd)(s2:Zk):Prop :=
 ∃(it:Zi)(fp:List Zi)(tn:Nat->ZT->Prop)(J:It)(H':Hp),itv=.ref it/\Inv X pj σ H' s2/\Turn X.prog X.w X.K tg J fp it tn/\tn 0 s2.heap/\(∀b∈fp,FpOk X pj H' b)/\R J H'
theorem VZ {M:Ze4}{A:ZG}{E:QvT}{s:Zk}{tg:Expr}{it:Zi}{u:Zd}{o:Obj}{n:String}{vs:Array Zd}{Q:Unit->Zk->Prop}(ho:s.heap.get? it=Za o)(hc:o.cls=.type n)(hd:o.data=.fields vs)
  (hn:["enumerate","zip","dict_itemiterator","dict_reverseitemiterator","odict_iterator","itertools.zip_longest","itertools.pairwise"].contains n=Zj)(hQ:Q () s):Zq M A (Zcv tg (.ref it) u) Q E s:=by
 unfold Zcv
 cases tg<;>first
  | exact Zw hQ
  | (cases u<;>first
    | exact Zw hQ
    | (refine Zh (wpAny_load ho ?_)
       rw[hc,hd]
       show Zq M A (if (["enumerate","zip","dict_itemiterator","dict_reverseitemiterator","odict_iterator","itertools.zip_longest","itertools.pairwise"].contains n&&vs[0]?==Za (ZbC _))=Ze then _ else _) Q E s
       rw[if_neg (by intro h;rw[hn,Bool.false_and] at h;cases h)]
       exact Zw hQ))
def Itl (K:W.Frag)(a:Zi):It :=
 ⟨λ i H=>∃xs x,SqL K H a xs/\xs[i]?=Za x,λ i H x H'=>H'=H/\∀xs,SqL K H a xs->xs[i]?=Za x,λ i H=>∃xs,SqL K H a xs/\xs.length<=i⟩
def Itt (K:W.Frag)(a:Zi):It :=
 ⟨λ i H=>∃xs x,SqT K H a xs/\xs[i]?=Za x,λ i H x H'=>H'=H/\∀xs,SqT K H a xs->xs[i]?=Za x,λ i H=>∃xs,SqT K H a xs/\xs.length<=i⟩
def Itr (lo:Int)(n:Nat):It:=⟨λ i _=>i<n,λ i H x H'=>H'=H/\x=.int (lo+i),λ i _=>n<=i⟩
theorem XW {P:ZA}{w:ZM}{K:W.Frag}{tg:Expr}(a it:Zi):Turn P w K tg (Itl K a) [it] it (λ i h=>h.IsListIter it a i) where
 mem:=by simp
 obj:=λ i h st b hb=>by
  have e:b=it:=by simpa using hb
  subst e
  obtain⟨o,e,c,d⟩:=st
  exact⟨o,e,λ v z=>by rw[d] at z;cases z⟩
 keep:=λ i h h' st k=>st.at λ o e=>k it (by simp) o e
 item:=by
  intro X hP hw hK hc i pj s σ H E I hf st hg
  subst hP hw hK
  obtain⟨xs,x,hq,hx⟩:=hg
  obtain⟨its,rv,p,hz⟩:=I.list hq
  obtain⟨u,hu,ru⟩:=rv.get hx
  obtain⟨f0,f1,f2,f3,f4,f5⟩:=hf it (by simp)
  refine Zc8 st p.isList (x:=u) (by simpa using hu) λ h' st' sb=>?_
  have I1:Inv X pj σ H { s with heap:=h' }:=I.turned (t':=s.toks) (λ b o hb e=>(sb.2 b hb).trans e) f0 f1 f3 f4 f5
  obtain⟨o,e,c,d⟩:=id st'
  exact⟨u,rfl,VZ (s:={ s with heap:=h' }) e c d (by decide) ⟨x,H,I1,ru,⟨rfl,λ ys hy=>by rw[I.list_inj hy hq];exact hx⟩,st',λ b hb=>(hf b hb).1⟩⟩
 done:=by
  intro X hP hw hK hc i pj s σ H E I hf st hg
  subst hP hw hK
  obtain⟨xs,hq,hx⟩:=hg
  obtain⟨its,rv,p,hz⟩:=I.list hq
  obtain⟨f0,f1,f2,f3,f4,f5⟩:=hf it (by simp)
  have hl:=rv.length
  exact Zec (I.ok.hd hc) st p.isList (by simp;omega) λ h' eb=>⟨rfl,I.turned (t':=s.toks) (λ b o hb e=>eb b o hb e) f0 f1 f3 f4 f5⟩
 self:=λ _ _ _ _ _ st h=>wpAny_pyIter_listiter st h
theorem Jne {P:ZA}{w:ZM}{K:W.Frag}{tg:Expr}(a it:Zi):Turn P w K tg (Itt K a) [it] it (λ i h=>h.IsTupleIter it a i) where
 mem:=by simp
 obj:=λ i h st b hb=>by
  have e:b=it:=by simpa using hb
  subst e
  obtain⟨o,e,c,d⟩:=st
  exact⟨o,e,λ v z=>by rw[d] at z;cases z⟩
 keep:=λ i h h' st k=>st.at λ o e=>k it (by simp) o e
 item:=by
  intro X hP hw hK hc i pj s σ H E I hf st hg
  subst hP hw hK
  obtain⟨xs,x,hq,hx⟩:=hg
  obtain⟨its,rv,p,hz⟩:=I.tuple hq
  obtain⟨u,hu,ru⟩:=rv.get hx
  obtain⟨f0,f1,f2,f3,f4,f5⟩:=hf it (by simp)
  refine wpAny_pyNext_tuple_item st (show s.heap.IsTuple a its.toArray from p) (x:=u) (by simpa using hu) λ h' st' sb=>?_
  have I1:Inv X pj σ H { s with heap:=h' }:=I.turned (t':=s.toks) (λ b o hb e=>(sb.2 b hb).trans e) f0 f1 f3 f4 f5
  obtain⟨o,e,c,d⟩:=id st'
  exact⟨u,rfl,VZ (s:={ s with heap:=h' }) e c d (by decide) ⟨x,H,I1,ru,⟨rfl,λ ys hy=>by rw[I.tuple_inj hy hq];exact hx⟩,st',λ b hb=>(hf b hb).1⟩⟩
 done:=by
  intro X hP hw hK hc i pj s σ H E I hf st hg
  subst hP hw hK
  obtain⟨xs,hq,hx⟩:=hg
  obtain⟨its,rv,p,hz⟩:=I.tuple hq
  obtain⟨f0,f1,f2,f3,f4,f5⟩:=hf it (by simp)
  have hl:=rv.length
  exact wpAny_pyNext_tuple_end (I.ok.hd hc) st (show s.heap.IsTuple a its.toArray from p) (by simp;omega) λ h' eb=>⟨rfl,I.turned (t':=s.toks) (λ b o hb e=>eb b o hb e) f0 f1 f3 f4 f5⟩
 self:=λ _ _ _ _ _ st h=>wpAny_pyIter_tupleiter st h
theorem Jnd {P:ZA}{w:ZM}{K:W.Frag}{tg:Expr}(it:Zi)(lo:Int)(n:Nat):Turn P w K tg (Itr lo n) [it] it (λ i h=>IsRangeIter h it (lo+(i:Nat)*1) ((n:Int)-(i:Nat)) 1) where
 mem:=by simp
 obj:=λ i h st b hb=>by
  have e:b=it:=by simpa using hb
  subst e
  exact⟨_,st,λ v z=>by
   have z':Data.fields _=ZeC v:=z
   cases z'⟩
 keep:=λ i h h' st k=>k it (by simp) _ st
 item:=by
  intro X hP hw hK hc i pj s σ H E I hf st hg
  subst hP hw hK
  obtain⟨f0,f1,f2,f3,f4,f5⟩:=hf it (by simp)
  have W:=Walks.range (prog:=X.prog) (w:=X.w) (I.ok.hd hc) it lo 1 n
  refine W.item i s _ _ hg st λ v h' tk hv st' kk=>?_
  obtain⟨t,rfl⟩:=hv
  have I1:Inv X pj σ H { s with heap:=h',toks:=tk }:=I.turned (λ b o hb e=>kk b o (by simpa using hb) e) f0 f1 f3 f4 f5
  refine⟨_,rfl,VZ (s:={ s with heap:=h',toks:=tk }) (n:="range_iterator") st' rfl rfl (by decide) ⟨.int (lo+i),H,I1,⟨t,?_⟩,⟨rfl,rfl⟩,st',λ b hb=>(hf b hb).1⟩⟩
  rw[Int.mul_one]
 done:=by
  intro X hP hw hK hc i pj s σ H E I hf st hg
  subst hP hw hK
  obtain⟨f0,f1,f2,f3,f4,f5⟩:=hf it (by simp)
  exact wpAny_pyNext_range_end (I.ok.hd hc) st (by have:n<=i:=hg;omega) λ h' eb=>⟨rfl,I.turned (t':=s.toks) (λ b o hb e=>eb b o hb e) f0 f1 f3 f4 f5⟩
 self:=λ _ _ _ _ _ st h=>wpAny_pyIter_rangeiter st h
section
variable {X:Cx}{tg:Expr}
theorem Jsq {pj:PnT}{σ:St}{H:Hp}{s:Zk}{R:It->Hp->Prop}{E:QvT}{lo hi:Int}{t u v:Tok}{tk:Nat}(I:Inv X pj σ H s)(h1: -(2^62)<=lo)(h2:lo<2^62)(h3: -(2^62)<=hi)(h4:hi<2^62)
  (q:R (Itr lo (hi-lo).toNat) H):Zq (Z1 X.prog X.w) X.A (Zey (.ref s.heap.objs.size)) (PIE X pj σ tg R) E { s with heap:=s.heap.push { cls:=.type "range",data:=.fields #[.int lo t,.int hi u,.int 1 v] },toks:=tk }:=by
 refine wpAny_pyIter_range (IsRange.new ..) (small_one h1 h2 h3 h4) ?_
 have I1:Inv X pj σ H { s with heap:=s.heap.push { cls:=.type "range",data:=.fields #[.int lo t,.int hi u,.int 1 v] },toks:=tk }:=I.kept λ b o e=>Zg _ e
 refine⟨(s.heap.push { cls:=.type "range",data:=.fields #[.int lo t,.int hi u,.int 1 v] }).objs.size,[(s.heap.push { cls:=.type "range",data:=.fields #[.int lo t,.int hi u,.int 1 v] }).objs.size],_,_,H,rfl,
  I1.kept (t':=tk) λ b o e=>Zg _ e,Jnd _ lo (hi-lo).toNat,?_,λ b hb=>?_,q⟩
 ·have e1:lo+((0:Nat):Int)*1=lo:=by simp
  have e2:(((hi-lo).toNat:Nat):Int)-((0:Nat):Int)=Builtin.Range.rangeSize lo hi 1:=by rw[rangeSize_one];split<;>omega
  show IsRangeIter _ _ (lo+((0:Nat):Int)*1) ((((hi-lo).toNat:Nat):Int)-((0:Nat):Int)) 1
  rw[e1,e2]
  exact Zy _ rfl
 ·have e:b=(s.heap.push { cls:=.type "range",data:=.fields #[.int lo t,.int hi u,.int 1 v] }).objs.size:=by simpa using hb
  subst e
  exact I1.fpOk (Zr _) (I1.hok.fresh (Zr _))
def Qz (fp:List Zi)(h:ZT):PnT:=fp.filterMap λ b=>(h.get? b).map λ o=>(b,o)
theorem XN {fp:List Zi}{h:ZT}{b:Zi}{o:Obj}(hb:b∈fp)(e:h.get? b=Za o):(b,o)∈Qz fp h:=List.mem_filterMap.mpr ⟨b,hb,by rw[e];rfl⟩
theorem Jpe {fp:List Zi}{h:ZT}{p:Zi×Obj}(hp:p∈Qz fp h):p.1∈fp/\h.get? p.1=Za p.2:=by
 obtain⟨b,hb,e⟩:=List.mem_filterMap.mp hp
 cases q:h.get? b with
 | none=>rw[q] at e;cases e
 | some o =>
  rw[q] at e
  have e':(b,o)=p:=Zaj e
  subst e'
  exact⟨hb,q⟩
theorem Inv.pinned {pj:PnT}{σ:St}{H:Hp}{s:Zk}{fp:List Zi}(I:Inv X pj σ H s)(hf:∀b∈fp,FpOk X pj H b)(ho:∀b∈fp,∃o,s.heap.get? b=Za o/\∀v,o.data≠.cell v):Inv X (pj++Qz fp s.heap) σ H s :=
 I.pins_of λ p hp=>(ZO.mp hp).elim (λ z=>I.pin p (Z4 _ z)) λ z=>by
  obtain⟨hb,e⟩:=Jpe z
  obtain⟨f0,f1,f2,_⟩:=hf p.1 hb
  obtain⟨o,e',d⟩:=ho p.1 hb
  rw[e] at e';cases e'
  exact⟨e,f0,f1,f2,d⟩
theorem Inv.unpinned {pj pl:PnT}{σ:St}{H:Hp}{s:Zk}(I:Inv X (pj++pl) σ H s):Inv X pj σ H s:=I.pins_of λ p hp=>I.pin p (Z4 _ (Zab _ hp))
end
abbrev R2:=V->V->Hp->VK->Prop
def OpR (X:Cx)(f:Zd->Zd->Sem Zd)(r:R2):Prop :=
 ∀(pj:PnT)(s:Zk)(σ:St)(H:Hp)(x y:V)(v u:Zd)(Q:VK),Inv X pj σ H s->RelV x v->RelV y u->r x y H Q ->
  Zq (Z1 X.prog X.w) X.A (f v u) (EP X pj σ Q) X.xe s
def UnR (X:Cx)(f:Zd->Sem Zd)(r:V->Hp->VK->Prop):Prop :=
 ∀(pj:PnT)(s:Zk)(σ:St)(H:Hp)(x:V)(v:Zd)(Q:VK),Inv X pj σ H s->RelV x v->r x H Q ->
  Zq (Z1 X.prog X.w) X.A (f v) (EP X pj σ Q) X.xe s
def VQ (X:Cx)(f:Zd)(r:List V->Hp->VK->Prop):Prop :=
 ∀(pj:PnT)(s:Zk)(σ:St)(H:Hp)(xs:List V)(us:List Zd)(Q:VK),Inv X pj σ H s->Vals xs us->r xs H Q ->
  Zq (Z1 X.prog X.w) X.A (call f us) (EP X pj σ Q) X.xe s
def TruR (X:Cx)(r:V->Hp->(Bool->Hp->Prop)->Prop):Prop :=
 ∀(pj:PnT)(s:Zk)(σ:St)(H:Hp)(x:V)(v:Zd)(Q:Bool->Hp->Prop),Inv X pj σ H s->RelV x v->r x H Q ->
  Zq (Z1 X.prog X.w) X.A (truthy v) (TP X pj σ Q) X.xe s
def rI (C:Int->Int->Prop)(g:Int->Int->V):R2:=λ x y H Q=>∃i j,x=.int i/\y=.int j/\C i j/\Q (g i j) H
def rI0 (g:Int->Int->V):R2:=λ x y H Q=>∃i j,x=.int i/\y=.int j/\Q (g i j) H
def rU (g:Int->V):V->Hp->VK->Prop:=λ x H Q=>∃i,x=.int i/\Q (g i) H
section
variable {X:Cx}{a b c:Expr}{ta tb tc:TE}{pos:Pos}
theorem opI {f:Zd->Zd->Sem Zd}{C:Int->Int->Prop}{g:Int->Int->Int}
  (rule:∀(i j:Int)(t u:Tok)(s:Zk)(Q:QvT)(E:QvT),C i j->Q (.int (g i j) s.toks) { s with toks:=s.toks+1 }->Zq (Z1 X.prog X.w) X.A (f (.int i t) (.int j u)) Q E s) :
  OpR X f (rI C λ i j=>.int (g i j)):=by
 intro pj s σ H x y v u Q I rx ry h
 obtain⟨i,j,rfl,rfl,hc,q⟩:=h
 obtain⟨t,rfl⟩:=rx
 obtain⟨t',rfl⟩:=ry
 exact rule i j t t' s _ _ hc ⟨.int (g i j),H,I.tok _,⟨_,rfl⟩,q⟩
theorem opI0 {f:Zd->Zd->Sem Zd}{g:Int->Int->Int}
  (rule:∀(i j:Int)(t u:Tok)(s:Zk)(Q:QvT)(E:QvT),Q (.int (g i j) s.toks) { s with toks:=s.toks+1 }->Zq (Z1 X.prog X.w) X.A (f (.int i t) (.int j u)) Q E s) :
  OpR X f (rI0 λ i j=>.int (g i j)):=by
 intro pj s σ H x y v u Q I rx ry h
 obtain⟨i,j,rfl,rfl,q⟩:=h
 obtain⟨t,rfl⟩:=rx
 obtain⟨t',rfl⟩:=ry
 exact rule i j t t' s _ _ ⟨.int (g i j),H,I.tok _,⟨_,rfl⟩,q⟩
theorem opB0 {f:Zd->Zd->Sem Zd}{g:Int->Int->Bool}
  (rule:∀(i j:Int)(t u:Tok)(s:Zk)(Q:QvT)(E:QvT),Q (.bool (g i j)) s->Zq (Z1 X.prog X.w) X.A (f (.int i t) (.int j u)) Q E s) :
  OpR X f (rI0 λ i j=>.bl (g i j)):=by
 intro pj s σ H x y v u Q I rx ry h
 obtain⟨i,j,rfl,rfl,q⟩:=h
 obtain⟨t,rfl⟩:=rx
 obtain⟨t',rfl⟩:=ry
 exact rule i j t t' s _ _ ⟨.bl (g i j),H,I,rfl,q⟩
def CPow (i j:Int):Prop:=0<=j/\j<=1000000/\i.natAbs<2^64
def CMul (i j:Int):Prop:=(-(2^64)<i/\i<2^64)∨(-(2^64)<j/\j<2^64)
theorem CMul.ok {i j:Int}(h:CMul i j):IntMulOk i j:=by
 rcases h with⟨h1,h2⟩|⟨h1,h2⟩
 ·exact .of_left (Zd7 h1 h2)
 ·exact .of_right (Zd7 h1 h2)
theorem Jy2:OpR X (ZaQ .Add) (rI0 λ i j=>.int (i+j)):=opI0 λ _ _ _ _ _ _ _ q=>add_int q
theorem Jy7:OpR X (ZaQ .Sub) (rI0 λ i j=>.int (i-j)):=opI0 λ _ _ _ _ _ _ _ q=>sub_int q
theorem Jy4:OpR X (ZaQ .Mod) (rI (λ _ j=>0<j) λ i j=>.int (i%j)):=opI λ i j _ _ _ _ _ hc q=>by
 have h1:(0:Int)<j:=hc
 exact mod_int' (by omega) (by rw[Int.fmod_eq_emod_of_nonneg i (by omega)];exact q)
theorem Jy5:OpR X (ZaQ .Pow) (rI CPow λ i j=>.int (i^j.toNat)):=opI λ _ _ _ _ _ _ _ hc q=>pow_int_small hc.1 hc.2.1 hc.2.2 q
theorem unI {f:Zd->Sem Zd}{g:Int->Int}
  (rule:∀(i:Int)(t:Tok)(s:Zk)(Q:QvT)(E:QvT),Q (.int (g i) s.toks) { s with toks:=s.toks+1 }->Zq (Z1 X.prog X.w) X.A (f (.int i t)) Q E s) :
  UnR X f (rU λ i=>.int (g i)):=by
 intro pj s σ H x v Q I rx h
 obtain⟨i,rfl,q⟩:=h
 obtain⟨t,rfl⟩:=rx
 exact rule i t s _ _ ⟨.int (g i),H,I.tok _,⟨_,rfl⟩,q⟩
theorem Jzy:UnR X (unaryOp .USub) (rU λ i=>.int (-i)):=unI λ _ _ _ _ _ q=>neg_int q
end
def scal:V->V->Bool
 | .non,.non=>Ze|.non,.int _=>Ze|.int _,.non=>Ze|.non,.bl _=>Ze|.bl _,.non=>Ze|.non,.str _=>Ze|.str _,.non=>Ze
 | .int _,.int _=>Ze|.bl _,.bl _=>Ze|.str _,.str _=>Ze|.byt _,.byt _=>Ze
 | .int _,.str _=>Ze|.str _,.int _=>Ze|.bl _,.str _=>Ze|.str _,.bl _=>Ze
 | _,_=>Zj
def rEq:R2:=λ x y H Q=>scal x y=Ze/\Q (.bl (decide (x=y))) H
def rNe:R2:=λ x y H Q=>scal x y=Ze/\Q (.bl (!decide (x=y))) H
theorem Jn5 {i j:Int}:decide (V.int i=V.int j)=(i==j):=by
 rw[ZbP]
 simp
theorem Jtm {i j:Bool}:decide (V.bl i=V.bl j)=(i==j):=by
 rw[ZbP]
 simp
theorem Jn6 {i j:Str}:decide (V.str i=V.str j)=(i==j):=by
 rw[ZbP]
 simp
theorem Jn4 {i j:Array UInt8}:decide (V.byt i=V.byt j)=(i.toList==j.toList):=by
 rw[ZbP]
 cases i
 cases j
 simp
section
variable {X:Cx}{a b c:Expr}{ta tb tc:TE}{pos:Pos}
theorem J4 {pj:PnT}{σ:St}{H:Hp}{s:Zk}{Q:VK}{k k':Bool}(I:Inv X pj σ H s)(q:Q (.bl k) H)(e:k=k'):EP X pj σ Q (.bool k') s:=by
 subst e
 exact⟨.bl k,H,I,rfl,q⟩
theorem J1a:OpR X (Zak .Eq) rEq:=by
 intro pj s σ H x y v u Q I rx ry h
 obtain⟨hs,q⟩:=h
 cases x with
 | non =>
  cases rx
  cases y with
  | non=>cases ry;exact PySem.EqNone.eq_none_none (J4 I q (by simp))
  | bl j=>cases ry;exact PySem.EqNone.eq_none_bool (J4 I q (by simp))
  | int j=>obtain⟨t',rfl⟩:=ry;exact PySem.EqNone.eq_none_int (J4 I q (by simp))
  | str j=>obtain⟨t',rfl⟩:=ry;exact PySem.EqNone.eq_none_str (J4 I q (by simp))
  | _=>exact absurd (show Zj=Ze from hs) Zp
 | bl i =>
  cases rx
  cases y with
  | non=>cases ry;exact PySem.EqNone.eq_bool_none (J4 I q (by simp))
  | bl j=>cases ry;exact eq_bool (J4 I q Jtm)
  | str j=>obtain⟨t',rfl⟩:=ry;exact PySem.EqMixed.eq_bool_str (J4 I q (by simp))
  | _=>exact absurd (show Zj=Ze from hs) Zp
 | int i =>
  obtain⟨t,rfl⟩:=rx
  cases y with
  | non=>cases ry;exact PySem.EqNone.eq_int_none (J4 I q (by simp))
  | int j=>obtain⟨t',rfl⟩:=ry;exact eq_int (J4 I q Jn5)
  | str j=>obtain⟨t',rfl⟩:=ry;exact PySem.EqMixed.eq_int_str (J4 I q (by simp))
  | _=>exact absurd (show Zj=Ze from hs) Zp
 | str i =>
  obtain⟨t,rfl⟩:=rx
  cases y with
  | non=>cases ry;exact PySem.EqNone.eq_str_none (J4 I q (by simp))
  | bl j=>cases ry;exact PySem.EqMixed.eq_str_bool (J4 I q (by simp))
  | int j=>obtain⟨t',rfl⟩:=ry;exact PySem.EqMixed.eq_str_int (J4 I q (by simp))
  | str j=>obtain⟨t',rfl⟩:=ry;exact eq_str (J4 I q Jn6)
  | _=>exact absurd (show Zj=Ze from hs) Zp
 | byt i =>
  obtain⟨t,rfl⟩:=rx
  cases y with
  | byt j=>obtain⟨t',rfl⟩:=ry;exact W.eq_bytes (J4 I q Jn4)
  | _=>exact absurd (show Zj=Ze from hs) Zp
 | _=>cases y<;>exact absurd (show Zj=Ze from hs) Zp
theorem J1f:OpR X (Zak .NotEq) rNe:=by
 intro pj s σ H x y v u Q I rx ry h
 obtain⟨hs,q⟩:=h
 cases x with
 | non =>
  cases rx
  cases y with
  | non=>cases ry;exact PySem.EqNone.ne_none_none (J4 I q (by simp))
  | bl j=>cases ry;exact PySem.EqNone.ne_none_bool (J4 I q (by simp))
  | int j=>obtain⟨t',rfl⟩:=ry;exact PySem.EqNone.ne_none_int (J4 I q (by simp))
  | str j=>obtain⟨t',rfl⟩:=ry;exact PySem.EqNone.ne_none_str (J4 I q (by simp))
  | _=>exact absurd (show Zj=Ze from hs) Zp
 | bl i =>
  cases rx
  cases y with
  | non=>cases ry;exact PySem.EqNone.ne_bool_none (J4 I q (by simp))
  | bl j=>cases ry;exact ne_bool (J4 I q (congrArg not Jtm))
  | str j=>obtain⟨t',rfl⟩:=ry;exact PySem.EqMixed.ne_bool_str (J4 I q (by simp))
  | _=>exact absurd (show Zj=Ze from hs) Zp
 | int i =>
  obtain⟨t,rfl⟩:=rx
  cases y with
  | non=>cases ry;exact PySem.EqNone.ne_int_none (J4 I q (by simp))
  | int j=>obtain⟨t',rfl⟩:=ry;exact ne_int (J4 I q (congrArg not Jn5))
  | str j=>obtain⟨t',rfl⟩:=ry;exact PySem.EqMixed.ne_int_str (J4 I q (by simp))
  | _=>exact absurd (show Zj=Ze from hs) Zp
 | str i =>
  obtain⟨t,rfl⟩:=rx
  cases y with
  | non=>cases ry;exact PySem.EqNone.ne_str_none (J4 I q (by simp))
  | bl j=>cases ry;exact PySem.EqMixed.ne_str_bool (J4 I q (by simp))
  | int j=>obtain⟨t',rfl⟩:=ry;exact PySem.EqMixed.ne_str_int (J4 I q (by simp))
  | str j=>obtain⟨t',rfl⟩:=ry;exact ne_str (J4 I q (congrArg not Jn6))
  | _=>exact absurd (show Zj=Ze from hs) Zp
 | byt i =>
  obtain⟨t,rfl⟩:=rx
  cases y with
  | byt j=>obtain⟨t',rfl⟩:=ry;exact W.ne_bytes (J4 I q (congrArg not Jn4))
  | _=>exact absurd (show Zj=Ze from hs) Zp
 | _=>cases y<;>exact absurd (show Zj=Ze from hs) Zp
theorem J1e:OpR X (Zak .Lt) (rI0 λ i j=>.bl (decide (i<j))):=opB0 λ _ _ _ _ _ _ _ q=>lt_int q
theorem J1d:OpR X (Zak .LtE) (rI0 λ i j=>.bl (decide (i<=j))):=opB0 λ _ _ _ _ _ _ _ q=>le_int q
theorem J1c:OpR X (Zak .Gt) (rI0 λ i j=>.bl (decide (j<i))):=opB0 λ _ _ _ _ _ _ _ q=>gt_int q
theorem J1b:OpR X (Zak .GtE) (rI0 λ i j=>.bl (decide (j<=i))):=opB0 λ _ _ _ _ _ _ _ q=>ge_int q
theorem Jpg:OpR X (Zak .Lt) (λ x y H Q=>∃i j,x=.str i/\y=.str j/\Q (.bl (decide (i.cps.toList<j.cps.toList))) H):=by
 intro pj s σ H x y v u Q I rx ry h
 obtain⟨i,j,rfl,rfl,q⟩:=h
 obtain⟨t,rfl⟩:=rx
 obtain⟨t',rfl⟩:=ry
 exact lt_str (J4 I q rfl)
def TruV (K:W.Frag)(x:V)(H:Hp)(k:Bool):Prop :=
 match x with
 | .non=>k=Zj
 | .bl b=>k=b
 | .int i=>k=(i != 0)
 | .str y=>y.length<=sizeLine/\k=((y.length:Int) != 0)
 | .byt y=>y.size<=sizeLine/\k=((y.size:Int) != 0)
 | .ref p=>(∃xs,SqL K H p xs/\k=!xs.isEmpty)∨(∃xs,SqT K H p xs/\k=!xs.isEmpty)∨∃kvs,H p=Za (.dK kvs)/\k=!kvs.isEmpty
 | _=>False
theorem Jmr {κ:Type}{kvs:List (κ×V)}{vs:List (κ×Zd)}(r:KV kvs vs):(!vs.isEmpty)=!kvs.isEmpty:=by
 cases r<;>rfl
theorem Jg9 {xs:List V}{its:List Zd}(r:Vals xs its):(!its.toArray.isEmpty)=!xs.isEmpty:=by
 cases r<;>simp
theorem XJ:(sizeLine:Nat)<2^63:=by rw[Zd2];decide
theorem V3:TruR X (λ x H Q=>∃k,TruV X.K x H k/\Q k H):=by
 intro pj s σ H x v Q I rx h
 obtain⟨k,e,q⟩:=h
 have hl:=XJ
 have hs:sizeLine=16777216:=Zd2
 cases x with
 | non =>
  cases rx
  have e':k=Zj:=e
  subst e'
  exact truthy_none ⟨H,I,q⟩
 | bl b =>
  cases rx
  have e':k=b:=e
  subst e'
  exact Zbl ⟨H,I,q⟩
 | int i =>
  obtain⟨t,rfl⟩:=rx
  have e':k=(i != 0):=e
  subst e'
  exact PySem.P.truthy_int ⟨H,I,q⟩
 | str y =>
  obtain⟨t,rfl⟩:=rx
  obtain⟨hy,e'⟩:y.length<=sizeLine/\k=((y.length:Int) != 0):=e
  subst e'
  exact PySem.P.truthy_str (by omega) ⟨H,I.tok _,q⟩
 | byt y =>
  obtain⟨t,rfl⟩:=rx
  obtain⟨hy,e'⟩:y.size<=sizeLine/\k=((y.size:Int) != 0):=e
  subst e'
  exact W.truthy_bytes (by omega) ⟨H,I.tok _,q⟩
 | ref p =>
  cases rx
  have e':(∃xs,SqL X.K H p xs/\k=!xs.isEmpty)∨(∃xs,SqT X.K H p xs/\k=!xs.isEmpty)∨∃kvs,H p=Za (.dK kvs)/\k=!kvs.isEmpty:=e
  rcases e' with⟨xs,hx,e'⟩|⟨xs,hx,e'⟩|⟨kvs,hx,e'⟩
  ·subst e'
   obtain⟨its,r,pl,hz⟩:=I.list hx
   have hlen:=r.length
   exact wpAny_truthy_list pl.isList (by simp only[Zz];omega) ⟨H,I.tok _,by rw[Jg9 r];exact q⟩
  ·subst e'
   obtain⟨its,r,pl,hz⟩:=I.tuple hx
   have hlen:=r.length
   exact truthy_tuple pl (by simp only[Zz];omega) ⟨H,I.tok _,by rw[Jg9 r];exact q⟩
  ·subst e'
   obtain⟨hz,hS,vs,r,m⟩:kvs.length<=sizeLine/\(p==Zcy)=Zj/\∃vs,KV kvs vs/\s.heap.DictOf (QQ X.prog X.w) p vs:=I.hok p _ hx
   have hlen:kvs.length=vs.length:=Zes r
   exact wpAny_truthy_dict hS m (by omega) ⟨H,I.tok _,by rw[Jmr r];exact q⟩
 | _=>exact Zf e
theorem Jm2:OpR X (ZaQ .Add) (λ x y H Q=>∃i j,x=.str i/\y=.str j/\i.length+j.length<=sizeLine/\Q (.str (i++j)) H):=by
 intro pj s σ H x y v u Q I rx ry h
 obtain⟨i,j,rfl,rfl,hz,q⟩:=h
 obtain⟨t,rfl⟩:=rx
 obtain⟨t',rfl⟩:=ry
 exact add_str (λ t' tk=>⟨.str (i++j),H,I.tok _,⟨_,rfl⟩,q⟩) hz
theorem Qq {x:V}{us:List Zd}(r:Vals [x] us):∃u,us=[u]/\RelV x u:=by
 cases r with
 | cons r1 r2=>cases r2;exact⟨_,rfl,r1⟩
theorem Jz2 {x y:V}{us:List Zd}(r:Vals [x,y] us):∃u w',us=[u,w']/\RelV x u/\RelV y w':=by
 cases r with
 | cons r1 r2 =>
  cases r2 with
  | cons r3 r4=>cases r4;exact⟨_,_,rfl,r1,r3⟩
theorem Jnz (hc:X.calm=Ze):VQ X (.builtin "max") (λ xs H Q=>∃i j,xs=[.int i,.int j]/\Q (.int (if j>i then j else i)) H):=by
 intro pj s σ H xs us Q I r h
 obtain⟨i,j,rfl,q⟩:=h
 obtain⟨u,w',rfl,⟨t,rfl⟩,⟨t',rfl⟩⟩:=Jz2 r
 refine max_two_ints (I.ok.hd hc) λ h' tk k=>⟨_,H,I.kept k,?_,q⟩
 by_cases hj:j>i
 ·rw[if_pos hj,if_pos hj];exact⟨_,rfl⟩
 ·rw[if_neg hj,if_neg hj];exact⟨_,rfl⟩
theorem Jn0 (hc:X.calm=Ze):VQ X (.builtin "min") (λ xs H Q=>∃i j,xs=[.int i,.int j]/\Q (.int (if j<i then j else i)) H):=by
 intro pj s σ H xs us Q I r h
 obtain⟨i,j,rfl,q⟩:=h
 obtain⟨u,w',rfl,⟨t,rfl⟩,⟨t',rfl⟩⟩:=Jz2 r
 refine min_two_ints (I.ok.hd hc) λ h' tk k=>⟨_,H,I.kept k,?_,q⟩
 by_cases hj:j<i
 ·rw[if_pos hj,if_pos hj];exact⟨_,rfl⟩
 ·rw[if_neg hj,if_neg hj];exact⟨_,rfl⟩
def LenV (K:W.Frag)(x:V)(H:Hp)(n:Nat):Prop :=
 match x with
 | .str y=>y.length<=sizeLine/\n=y.length
 | .byt y=>y.size<=sizeLine/\n=y.size
 | .ref p=>(∃xs,SqL K H p xs/\n=xs.length)∨∃xs,SqT K H p xs/\n=xs.length
 | _=>False
theorem Jfc:VQ X (.builtin "len") (λ xs H Q=>∃x n,xs=[x]/\LenV X.K x H n/\Q (.int n) H):=by
 intro pj s σ H xs us Q I r h
 obtain⟨x,n,rfl,e,q⟩:=h
 obtain⟨u,rfl,rx⟩:=Qq r
 have hl:=XJ
 have hs:sizeLine=16777216:=Zd2
 cases x with
 | str y =>
  obtain⟨t,rfl⟩:=rx
  obtain⟨hy,e'⟩:y.length<=sizeLine/\n=y.length:=e
  subst e'
  exact len_str (by omega) ⟨.int _,H,I.tok _,⟨_,rfl⟩,q⟩
 | byt y =>
  obtain⟨t,rfl⟩:=rx
  obtain⟨hy,e'⟩:y.size<=sizeLine/\n=y.size:=e
  subst e'
  exact W.len_bytes (by omega) ⟨.int _,H,I.tok _,⟨_,rfl⟩,q⟩
 | ref p =>
  cases rx
  have e':(∃xs,SqL X.K H p xs/\n=xs.length)∨∃xs,SqT X.K H p xs/\n=xs.length:=e
  rcases e' with⟨xs,hx,e'⟩|⟨xs,hx,e'⟩
  ·subst e'
   obtain⟨its,r',pl,hz⟩:=I.list hx
   have hlen:=r'.length
   exact Calls.call_len_list pl.isList (by simp only[Zz];omega) ⟨.int xs.length,H,I.tok _,⟨_,by simp only[Zz];rw[hlen]⟩,q⟩
  ·subst e'
   obtain⟨its,r',pl,hz⟩:=I.tuple hx
   have hlen:=r'.length
   exact len_tuple pl (by simp only[Zz];omega) ⟨.int xs.length,H,I.tok _,⟨_,by simp only[Zz];rw[hlen]⟩,q⟩
 | _=>exact Zf e
end
structure ObjM (h:ZT)(x dx C:Zi)(mA:Str->Option Zd):Prop where
 obj:h.get? x=Za (W.instObj C dx)
 ns:h.Ns1 dx mA
 ne:dx≠x
theorem Jo8 {h:ZT}{dx:Zi}{mA:Str->Option Zd}(n:h.Ns1 dx mA):∃od,h.get? dx=Za od/\∀name,W.lookIn name od=Za (mA name):=by
 obtain⟨o,es,ep,ho,hd,hk,_,hm⟩:=n
 refine⟨o,ho,λ name=>?_⟩
 have e:=hm name
 unfold nsFind findBy at e
 rw[<- Zdr] at e
 unfold W.lookIn
 rw[hd]
 dsimp only
 split
 ·rename_i y q
  rw[q] at e
  exact congrArg Za e
 ·rename_i q
  rw[q] at e
  have a:es.toList.any (·.refKey)=Zj:=by
   rw[List.any_eq_false]
   intro y hy
   obtain⟨z,t,hkey⟩:=hk y (Array.mem_toList_iff.mp hy)
   simp[DictEntry.refKey,hkey]
  have a':¬es.toList.any (·.refKey)=Ze:=by rw[a];exact Zp
  rw[if_neg a']
  exact congrArg Za e
theorem ObjM.look {h:ZT}{x dx C:Zi}{mA:Str->Option Zd}(I:ObjM h x dx C mA):∃od,W.InstAt h x (W.instObj C dx) C (Za od)/\∀name,W.lookIn name od=Za (mA name) :=
 let ⟨od,ho,hl⟩:=Jo8 I.ns
 ⟨od,⟨I.obj,rfl,rfl,ho⟩,hl⟩
section
variable {prog:ZA}{w:ZM}{A:ZG}{E:QvT}{s:Zk}{K:W.Frag}{x dx C f:Zi}{mA:Str->Option Zd}{name:Str}{v:Zd}
theorem Ju2 {expr:Bool}{Q:QvT}(X:K.In s.heap)(I:ObjM s.heap x dx C mA)(hg:W.plainGet K C name=Ze)(hh:W.hasDictIn K C=Ze)
  (ha:W.findIn K (.ref C) name=Za Zb)(hv:mA name=Za v)(hv':W.handedIn v=Ze)(h:Q v { s with toks:=s.toks+1 }) :
  Zq (Z1 prog w) A (getAttr (.ref x) name expr) Q E s:=by
 obtain⟨od,J,hl⟩:=I.look
 exact W.get_value X J (W.plainGet_of hg).1 (W.findObj_own hh ha rfl (by rw[hl,hv])) hv' h
theorem Jro {pl:Sem Bool}{Q:Zd×List Zd->Zk->Prop}(X:K.In s.heap)(I:ObjM s.heap x dx C mA)(hg:W.plainGet K C name=Ze)
  (hf:W.findIn K (.ref C) name=Za (Za (.ref f)))(ht:W.isFn K (.ref f)=Ze)(hv:mA name=Zb)(h:Q (.ref f,[.ref x]) s) :
  Zq (Z1 prog w) A (ZdG (.ref x) name pl) Q E s:=by
 obtain⟨od,J,hl⟩:=I.look
 exact W.method_fn X J (W.plainGet_of hg).1 (W.plainGet_of hg).2 hf (beq_iff_eq.mp ht) (by show(W.lookIn name od).map (·.isSome)=Za Zj;rw[hl,hv];rfl) h
theorem Jwj {ns:List Str}{Q:Unit->Zk->Prop}(X:K.In s.heap)(I:ObjM s.heap x dx C mA)
  (hs:W.findIn K (.ref C) "__setattr__"=Za (Za (.builtin "object.__setattr__")))(hp:W.plainOver K C=Ze)(ht:W.takerIn K C name=Za Zb)(hh:W.hasDictIn K C=Ze)
  (hw:Ze2 mA ns)(hsz:ns.length<=sizeLine)
  (h:∀h',ObjM h' x dx C (λ y=>if y=name then Za v else mA y)->Zc7 dx s.heap h'->Q () { s with heap:=h',toks:=s.toks+2 }) :
  Zq (Z1 prog w) A (setAttr (.ref x) name v) Q E s:=by
 obtain⟨od,J,hl⟩:=I.look
 refine W.set_plain X J hs (W.osa_open (s:={ s with toks:=s.toks+1 }) (r:=Zb) X J hp ht λ b=>?_)
 obtain⟨cd,hc,hd'⟩:=W.any_some hh
 have hx:s.heap.get? x=Za ⟨.ref C,Za dx,.plain,#[]⟩:=I.obj
 refine Zh (Zw (Zh (Zh (Zei hx (Zh (W.Looks.here (s:={ s with toks:=s.toks+1 }) (W.looks_clsIn X hc) ?_))))))
 rw[hd']
 refine Zw (a:=Za dx) (Zh (Zw (Zh ?_)))
 refine wpAny_nsSet1 (s:={ s with toks:=s.toks+1 }) I.ns λ h' hn2 hs2=>?_
 obtain⟨oD,esD,epD,hoD,hdD,hcD⟩:=hn2.count (PySem.Within.cons name v hw)
 refine Zh (wpAny_lookBehind hoD (by rw[hdD];exact pastItsLine_dict (Zah hcD (by rw[ZC];omega))) ?_)
 exact Zw (h _ ⟨(hs2.2 _ (ZW I.ne)).trans I.obj,hn2,I.ne⟩ hs2)
theorem Jse {R:Zd8->Zk->Prop}{vs:List Zd}{kw:List (Str×Zd)}(X:K.In s.heap)(hm:W.makesIn K C=Ze)
  (hi:W.findIn K (.ref C) "__init__"=Za (Za (.ref f)))(hf:W.typeIn K (.ref f)=Za (.type "function"))
  (h:ZbW (Z1 prog w) (A.under (.builtin "type.__call__" ⟨.ref C::vs,kw⟩)) (.call (.ref f) ⟨.ref (s.heap.objs.size+1)::vs,kw⟩) (W.InitBack (s.heap.objs.size+1) R)
   { s with heap:=(s.heap.push W.emptyDict).push (W.instObj C s.heap.objs.size) }) :
  ZbW (Z1 prog w) A (.call (.ref C) ⟨vs,kw⟩) R s:=by
 obtain⟨hh,g,d,t,os⟩:=s
 exact W.make_core (W.makes_of X hm) (W.looks_findIn X hi) (λ self=>W.bind_fn X self hf) (.inl rfl) h
end
def putF (f:Str)(v:V):List (Str×V)->List (Str×V)
 | []=>[(f,v)]
 | (g,x)::r=>if g=f then(g,v)::r else(g,x)::putF f v r
theorem Jgf (f g:Str)(v:V):∀fs:List (Str×V),(putF f v fs).lookup g=if g=f then Za v else fs.lookup g
 | []=>by
  show Zb1 g [(f,v)]=_
  by_cases h:g=f
  ·have hb:(g==f)=Ze:=beq_iff_eq.mpr h
   simp only[Zb1,hb,if_pos h]
  ·have hb:(g==f)=Zj:=beq_eq_false_iff_ne.mpr h
   simp only[Zb1,hb,if_neg h]
 | (k,x)::r=>by
  have ih:=Jgf f g v r
  rw[show putF f v ((k,x)::r)=(if k=f then(k,v)::r else(k,x)::putF f v r) from rfl]
  by_cases hk:k=f
  ·rw[if_pos hk]
   by_cases h:g=k
   ·have hb:(g==k)=Ze:=beq_iff_eq.mpr h
    simp only[Zb1,hb,if_pos (h.trans hk)]
   ·have hb:(g==k)=Zj:=beq_eq_false_iff_ne.mpr h
    simp only[Zb1,hb,if_neg (λ e:g=f=>h (e.trans hk.symm))]
  ·rw[if_neg hk]
   by_cases h:g=k
   ·have hb:(g==k)=Ze:=beq_iff_eq.mpr h
    simp only[Zb1,hb,if_neg (λ e:g=f=>hk (h.symm.trans e))]
   ·have hb:(g==k)=Zj:=beq_eq_false_iff_ne.mpr h
    simp only[Zb1,hb]
    exact ih
theorem Jgc (f:Str)(v:V):∀fs:List (Str×V),f∈(putF f v fs).map (·.1)/\∀g,g∈fs.map (·.1)->g∈(putF f v fs).map (·.1)
 | []=>⟨by simp[putF],λ g h=>by simp at h⟩
 | (k,x)::r=>by
  obtain⟨i1,i2⟩:=Jgc f v r
  rw[show putF f v ((k,x)::r)=(if k=f then(k,v)::r else(k,x)::putF f v r) from rfl]
  by_cases hk:k=f
  ·rw[if_pos hk]
   subst hk
   exact⟨by simp,λ g h=>by simpa using h⟩
  ·rw[if_neg hk]
   refine⟨?_,λ g h=>?_⟩
   ·rw[Zs]
    exact Zt _ i1
   ·rw[Zs] at h ⊢
    rcases ZB.mp h with e|e
    ·exact ZB.mpr (.inl e)
    ·exact Zt _ (i2 g e)
theorem Jge (f:Str)(v:V):∀fs:List (Str×V),(putF f v fs).length<=fs.length+1
 | []=>by simp[putF]
 | (k,x)::r=>by
  have ih:=Jge f v r
  rw[show putF f v ((k,x)::r)=(if k=f then(k,v)::r else(k,x)::putF f v r) from rfl]
  by_cases hk:k=f
  ·rw[if_pos hk,ZC,ZC];omega
  ·rw[if_neg hk,ZC,ZC];omega
theorem RelO.some_of {v:V}{o:Option Zd}(r:RelO (Za v) o):∃u,o=Za u/\RelV v u:=by
 cases o with
 | none=>exact Zf r
 | some u=>exact⟨u,rfl,r⟩
theorem RelO.none_of {o:Option Zd}(r:RelO Zb o):o=Zb:=by
 cases o with
 | none=>rfl
 | some u=>exact Zf r
theorem Joo {v:V}{u:Zd}(r:RelV v u):W.handedIn u=Ze:=by
 cases v with
 | non=>cases (show u=Zaf from r);rfl
 | bl b=>cases (show u=Zcx b from r);rfl
 | int i=>obtain⟨t,e⟩:=(show ∃t,u=Zdo i t from r);cases e;rfl
 | str x=>obtain⟨t,e⟩:=(show ∃t,u=Zep x t from r);cases e;rfl
 | byt b=>obtain⟨t,e⟩:=(show ∃t,u=Value.bytes b t from r);cases e;rfl
 | flt b=>obtain⟨t,e⟩:=(show ∃t,u=Value.float b t from r);cases e;rfl
 | ref a=>cases (show u=Za4 a from r);rfl
 | ty n=>cases (show u=ZbZ n from r);rfl
section
variable {P:ZA}{w:ZM}{H H':Hp}{h h':ZT}{a C dx:Zi}{fs fs':List (Str×V)}
theorem Jhv (hok:HOk P w H h)(e:H a=Za (.ins C dx fs)):∃mA,ObjM h a dx C mA/\(∀f,RelO (fs.lookup f) (mA f))/\Ze2 mA (fs.map (·.1))/\fs.length<=1000/\H dx=Za (.own a):=by
 obtain⟨d,z,ne,ob,mA,n,r,q⟩:=(show JE P w H h a (.ins C dx fs) from hok a _ e)
 exact⟨mA,⟨ob,n,ne⟩,r,q,z,d⟩
end
structure Cls (K:W.Frag)(C:Zi):Prop where
 pg:W.plainGet K C Str.empty=Ze
 hd:W.hasDictIn K C=Ze
 po:W.plainOver K C=Ze
 sa:W.findIn K (.ref C) "__setattr__"=Za (Za (.builtin "object.__setattr__"))
theorem Cls.get {K:W.Frag}{C:Zi}(c:Cls K C)(f:Str):W.plainGet K C f=Ze:=c.pg
def Va (K:W.Frag)(C:Zi)(f:Str):Prop:=W.findIn K (.ref C) f=Za Zb
theorem Va.taker {K:W.Frag}{C:Zi}{f:Str}(n:Va K C f):W.takerIn K C f=Za Zb:=by
 unfold W.takerIn
 rw[show W.findIn K (.ref C) f=Za Zb from n]
 rfl
structure Meth (K:W.Frag)(C:Zi)(m:Str)(f:Zi):Prop where
 at_:W.findIn K (.ref C) m=Za (Za (.ref f))
 fn:W.isFn K (.ref f)=Ze
 kp:W.keepIn K (.ref f)=Ze
section
variable {X:Cx}{pj:PnT}{σ:St}{H:Hp}{s:Zk}{a C dx:Zi}{fs:List (Str×V)}{f:Str}{v:V}{A:ZG}{E:QvT}
theorem Jmg {b:Bool}{Q:QvT}(I:Inv X pj σ H s)(e:H a=Za (.ins C dx fs))(c:Cls X.K C)(n:Va X.K C f)(l:fs.lookup f=Za v)
  (h:∀u s',Inv X pj σ H s'->RelV v u->Q u s'):Zq (Z1 X.prog X.w) A (getAttr (.ref a) f b) Q E s:=by
 obtain⟨mA,O,r,_,_,_⟩:=Jhv I.hok e
 obtain⟨u,hu,ru⟩:=RelO.some_of (v:=v) (o:=mA f) (by rw[<- l];exact r f)
 exact Ju2 I.kIn O (c.get f) c.hd n hu (Joo ru) (h u _ (I.tok _) ru)
theorem Jg8 {m:Str}{g:Zi}{pl:Sem Bool}{Q:Zd×List Zd->Zk->Prop}(I:Inv X pj σ H s)(e:H a=Za (.ins C dx fs))(c:Cls X.K C)(k:Meth X.K C m g)(l:fs.lookup m=Zb)
  (h:Q (.ref g,[.ref a]) s):Zq (Z1 X.prog X.w) A (ZdG (.ref a) m pl) Q E s:=by
 obtain⟨mA,O,r,_,_,_⟩:=Jhv I.hok e
 have hn:mA m=Zb:=RelO.none_of (by rw[<- l];exact r m)
 exact Jro I.kIn O (c.get m) k.at_ k.fn hn h
theorem Jnb {y:V}{u:Zd}{Q:Unit->Zk->Prop}(I:Inv X pj σ H s)(e:H a=Za (.ins C dx fs))(c:Cls X.K C)(n:Va X.K C f)(hl:fs.length<1000)(ry:RelV y u)
  (h:∀s',Inv X pj σ (upd H a (.ins C dx (putF f y fs))) s'->Q () s'):Zq (Z1 X.prog X.w) A (setAttr (.ref a) f u) Q E s:=by
 obtain⟨mA,O,r,wi,_,ho⟩:=Jhv I.hok e
 have hz:(fs.map (·.1)).length<=sizeLine:=by rw[Zo,Zd2];omega
 refine Jwj I.kIn O c.sa c.po n.taker c.hd wi hz λ h' O' sb=>h _ ?_
 have hd:∃o,h'.get? dx=Za o:=let ⟨o,_,_,e',_⟩:=O'.ns;⟨o,e'⟩
 refine I.write (x:=a) (e:=dx) (by rw[e];exact ZaE) (.inr ho) (λ b q hb z=>(sb.2 b hb).trans z) hd ?_
 refine⟨by rw[Jo O.ne];exact ho,?_,O.ne,O'.obj,_,O'.ns,λ g=>?_,λ g hg=>?_⟩
 ·have:=Jge f y fs;omega
 ·show RelO ((putF f y fs).lookup g) (if g=f then Za u else mA g)
  rw[Jgf]
  by_cases q:g=f
  ·rw[if_pos q,if_pos q];exact ry
  ·rw[if_neg q,if_neg q];exact r g
 ·by_cases q:g=f
  ·rw[q];exact(Jgc f y fs).1
  ·refine(Jgc f y fs).2 g (wi g λ z=>hg ?_)
   show(if g=f then Za u else mA g)=Zb
   rw[if_neg q];exact z
theorem Inv.made (I:Inv X pj σ H s):Inv X pj σ (upd (upd H s.heap.objs.size (.own (s.heap.objs.size+1))) (s.heap.objs.size+1) (.ins C s.heap.objs.size []))
  { s with heap:=(s.heap.push W.emptyDict).push (W.instObj C s.heap.objs.size) }:=by
 have e1:(s.heap.push W.emptyDict).get? s.heap.objs.size=Za W.emptyDict:=Zy s.heap rfl
 have e2:((s.heap.push W.emptyDict).push (W.instObj C s.heap.objs.size)).get? (s.heap.objs.size+1)=Za (W.instObj C s.heap.objs.size):=by
  have:=Zy (s.heap.push W.emptyDict) (o:=W.instObj C s.heap.objs.size) rfl
  rwa [Zc9] at this
 have e3:(s.heap.push W.emptyDict).Ns s.heap.objs.size (λ _=>Zb):=⟨W.emptyDict,#[],_,e1,rfl,(λ e he=>absurd he (by simp)),λ _=>rfl⟩
 have I1:=I.laid (a:=s.heap.objs.size) (o:=.own (s.heap.objs.size+1)) (h':=s.heap.push W.emptyDict) (t':=s.toks) (λ b u q=>Zg _ q) (Zr _) ⟨_,e1⟩
 refine I1.laid (a:=s.heap.objs.size+1) (o:=.ins C s.heap.objs.size []) (t':=s.toks) (λ b u q=>Zg _ q) (Zdi (Zc9 _ _)) ?_
 have ne:s.heap.objs.size≠s.heap.objs.size+1:=ZD (ZaR _)
 refine⟨by rw[Jo ne,Jy],Zal _,ne,e2,λ _=>Zb,(Heap.Ns1.of_empty e3).at λ o q=>Zg _ q,λ _=>ZaE,λ y hy=>absurd rfl hy⟩
theorem Jnq {prog:ZA}{w:ZM}{env:Env}{e:Expr}{f:Str}{pos:Pos}{s:Zk}{Q:QvT}(hb:Zcs e f env (ZaJ e env)=ZaJ e env)
  (h:Zq (Z1 prog w) A (ZaJ e env) (λ o s₁=>Zq (Z1 prog w) A (getAttr o f Ze) Q E s₁) E s):Zq (Z1 prog w) A (ZaJ (.Attribute e f pos) env) Q E s :=
 Attribute_any_ h (by rw[arm_eval_Attribute,hb])
end
section
variable {X:Cx}{o e value:Expr}{f:Str}{pos pos' tpos:Pos}{ta tv:TE}
end
section
variable {X:Cx}{pj:PnT}{σ:St}{H:Hp}{s:Zk}{A:ZG}{E:QvT}{Q:QvT}{c:Zd}{b:Bool}
end
structure Room (k:Nat)(A:ZG):Prop where
 hd:A.handled=Zb
 dp:A.depth+3*k+5<recursionLimit
 un:A.units+16*k+200<Zet
theorem Room.mono {j k:Nat}{A:ZG}(r:Room k A)(h:j<=k):Room j A:=⟨r.hd,by have:=r.dp;omega,by have:=r.un;omega⟩
theorem Room.deeper {k:Nat}{A:ZG}(r:Room (k+1) A)(env:Env):Room k (A.deeper env) :=
 ⟨r.hd,by have:=r.dp;show A.depth+1+3*k+5<_;omega,by have:=r.un;show A.units+3+16*k+200<_;omega⟩
theorem Room.in1 {k:Nat}{A:ZG}(r:Room (k+1) A):Room k A.in1 :=
 ⟨r.hd,by have:=r.dp;show A.depth+3*k+5<_;omega,by have:=r.un;show A.units+1+16*k+200<_;omega⟩
theorem Jm0 {A:ZG}{C:Zi}{us:List Zd}{kw:List (Str×Zd)}:(A.under (.builtin "type.__call__" ⟨.ref C::us,kw⟩)).depth=A.depth+1:=by
 first|rfl|simp[Ze5,Code.weight,Code.isCreation,Code.isGuard,Code.isCaller,Code.frames,Ze6,guardIds]
theorem Jm1 {A:ZG}{C:Zi}{us:List Zd}{kw:List (Str×Zd)}:(A.under (.builtin "type.__call__" ⟨.ref C::us,kw⟩)).units=A.units+1:=by
 first|rfl|simp[Ze5,Code.cUnits,Code.frames,Ze6]
theorem Room.make {k:Nat}{A:ZG}(r:Room (k+1) A)(C:Zi)(us:List Zd)(kw:List (Str×Zd)):Room k (A.under (.builtin "type.__call__" ⟨.ref C::us,kw⟩)) :=
 ⟨r.hd,by have:=r.dp;rw[Jm0];omega,by have:=r.un;rw[Jm1];omega⟩
theorem Room.depth {k:Nat}{A:ZG}(r:Room k A):A.depth<recursionLimit:=by have:=r.dp;omega
theorem Room.units {k:Nat}{A:ZG}(r:Room k A):A.units+64<Zet:=by have:=r.un;omega
section
variable {X:Cx}{e:Expr}{es:List Expr}{te:TE}{t:TA}{pos:Pos}
end
abbrev Sp:=List V->Hp->VK->XK->Prop
abbrev CXT:=List Env->Hp->Zk->XK->QvT
structure Env0 (P:ZA)(w:ZM)(K:W.Frag)(mg:Str->Option Zd)(base:ZT)(A:ZG)(outer:List Env)(s:Zk)(H:Hp):Prop where
 frames:A.frames=Za outer
 mod:Mod K mg base
 bs:∀b o,base.get? b=Za o->s.heap.get? b=Za o/\H b=Zb
 bsz:base.objs.size<=s.heap.objs.size
 funs:s.heap.FunFrames base outer
 frf:∀b∈frs outer,H b=Zb
 hok:HOk P w H s.heap
 bare:Zdh s.gens
def CE (outer:List Env)(P:ZA)(w:ZM)(H:Hp)(s:Zk)(Q:VK)(u:Zd)(s':Zk):Prop :=
 ∃v H',s'.os=s.os/\Zdh s'.gens/\Un (frs outer) [] H H' s.heap s'.heap/\HOk P w H' s'.heap/\RelV v u/\Q v H'
def CR (CX:CXT)(outer:List Env)(P:ZA)(w:ZM)(H:Hp)(s:Zk)(Q:VK)(E:XK)(r:Zd8)(s':Zk):Prop :=
 match r with
 | .ok (.ret u)=>CE outer P w H s Q u s'
 | .ok _=>False
 | .error e=>CX outer H s E e s'
structure FnOk (P:ZA)(w:ZM)(K:W.Frag)(mg:Str->Option Zd)(base:ZT)(CX:CXT)(k:Nat)(f:Zi)(fd:Zam)(ps:List Str)(sp:Sp):Prop where
 len:∀vs H Q E,sp vs H Q E->vs.length=ps.length
 run:∀(A:ZG)(outer:List Env)(s:Zk)(H:Hp)(args:Args)(us:List Zd)(vs:List V)(Q:VK)(E:XK),Room k A->Env0 P w K mg base A outer s H->Zcw s fd args (ps.zip us)->Vals vs us->sp vs H Q E ->
  ZbW (Z1 P w) A (.call (.ref f) args) (CR CX outer P w H s Q E) s
theorem FnOk.mono {P:ZA}{w:ZM}{K:W.Frag}{mg:Str->Option Zd}{base:ZT}{CX:CXT}{j k:Nat}{f:Zi}{fd:Zam}{ps:List Str}{sp:Sp}(F:FnOk P w K mg base CX j f fd ps sp)(h:j<=k) :
  FnOk P w K mg base CX k f fd ps sp:=⟨F.len,λ A outer s H args us vs Q E hr=>F.run A outer s H args us vs Q E (hr.mono h)⟩
theorem FnOk.imp {P:ZA}{w:ZM}{K:W.Frag}{mg:Str->Option Zd}{base:ZT}{CX:CXT}{k:Nat}{f:Zi}{fd:Zam}{ps:List Str}{sp sp':Sp}(F:FnOk P w K mg base CX k f fd ps sp)
  (h:∀vs H Q E,sp' vs H Q E->sp vs H Q E):FnOk P w K mg base CX k f fd ps sp' :=
 ⟨λ vs H Q E q=>F.len vs H Q E (h _ _ _ _ q),λ A outer s H args us vs Q E hr he hb hv hs=>F.run A outer s H args us vs Q E hr he hb hv (h _ _ _ _ hs)⟩
theorem Env0.make {P:ZA}{w:ZM}{K:W.Frag}{mg:Str->Option Zd}{base:ZT}{A:ZG}{outer:List Env}{s:Zk}{H:Hp}(e:Env0 P w K mg base A outer s H)(C:Zi)(us:List Zd)(kw:List (Str×Zd)) :
  Env0 P w K mg base (A.under (.builtin "type.__call__" ⟨.ref C::us,kw⟩)) outer s H:=⟨by first|exact e.frames|(simpa [Ze5,Code.envs,Ze6,pushEnvs] using e.frames),e.mod,e.bs,e.bsz,e.funs,e.frf,e.hok,e.bare⟩
theorem Env0.in1 {P:ZA}{w:ZM}{K:W.Frag}{mg:Str->Option Zd}{base:ZT}{A:ZG}{outer:List Env}{s:Zk}{H:Hp}(e:Env0 P w K mg base A outer s H) :
  Env0 P w K mg base A.in1 outer s H:=⟨e.frames,e.mod,e.bs,e.bsz,e.funs,e.frf,e.hok,e.bare⟩
section
variable {X:Cx}{pj:PnT}{σ:St}{H:Hp}{s s':Zk}
theorem Inv.env0 (I:Inv X pj σ H s):Env0 X.prog X.w X.K X.mg X.base X.A X.stack s H :=
 ⟨I.ok.frames,I.ok.mod,I.bs,Zah I.ok.bsz I.sz,I.stack,I.stkFree,I.hok,I.bare⟩
theorem Inv.after {Q:VK}{u:Zd}(I:Inv X pj σ H s)(h:CE X.stack X.prog X.w H s Q u s'):EP X pj σ Q u s':=by
 obtain⟨v,H',os,bare,un,hok,r,q⟩:=h
 obtain⟨hh,g,d,t,os'⟩:=s'
 obtain rfl:os'=s.os:=os
 exact⟨v,H',I.call (h':=hh) (g':=g) (d':=d) (t':=t) (ch:=[]) un hok bare (λ b z=>absurd z (by simp)),r,q⟩
end
def JL (K:W.Frag)(fd:Zam)(ps:List Str)(ds:List Zd):Prop :=
 ∀(s:Zk)(us:List Zd),K.In s.heap->(us++ds).length=ps.length->Zcw s fd ⟨us,[]⟩ (ps.zip (us++ds))
theorem JL.all {K:W.Frag}{fd:Zam}{ps:List Str}(h:∀us:List Zd,us.length=ps.length->ZdH fd ⟨us,[]⟩=pure (ps.zip us)):JL K fd ps []:=λ s us _ hl=>by
 rw[ZaK] at hl ⊢
 exact .of_eq (h us hl)
section
variable {X:Cx}{CX:CXT}{k:Nat}{f C:Zi}{fd:Zam}{ps:List Str}{sp:Sp}{dvs:List V}{ds:List Zd}{E:XK}{x m:Str}{p pos apos:Pos}{e o:Expr}{es:List Expr}{ta:TE}{t:TA}
structure Mk (K:W.Frag)(C f:Zi):Prop where
 makes:W.makesIn K C=Ze
 init:W.findIn K (.ref C) "__init__"=Za (Za (.ref f))
 fn:W.isFn K (.ref f)=Ze
 kp:W.keepIn K (.ref C)=Ze
end
section
variable {X:Cx}{CX:CXT}{k:Nat}{f C:Zi}{fd:Zam}{ps ks:List Str}{sp:Sp}{E:XK}{x m:Str}{p pos apos kpos:Pos}{e o:Expr}{es:List Expr}{kws:List Zdj}{te ta:TE}{t tk:TA}{nm:Option Str}
variable {g:List Zd->List Zd->List Zd}{gV:List V->List V->List V}
end
structure FnScope (N P:List Str)(sc:Zba):Prop where
 kind:sc.kind=.function
 co:sc.isCoroutine=Zj
 gen:sc.isGenerator=Zj
 nd:N.Nodup
 pre:N.take P.length=P
 par:∀x∈P,sc.names.lookup x=Za .local∨sc.names.lookup x=Za .cell
 nofree:∀y∈sc.names,y.2≠.free
theorem Jiu {kindOf:Str->Option Zbb}{x:Str}:∀{binds:List (Str×Zd)}{m:Str->Option Zd},(∀v,(x,v)∉binds)->bindL kindOf binds m x=m x
 | [],_,_=>rfl
 | (n,v)::r,m,h=>by
  unfold bindL
  rw[Jiu λ w hw=>h w (Zt _ hw)]
  split
  ·have:x≠n:=by rintro rfl;exact h v Zv
   simp[this]
  ·rfl
theorem Jis {kindOf:Str->Option Zbb}{x:Str}:∀{binds:List (Str×Zd)}{m:Str->Option Zd},(∀v,(x,v)∉binds)->bindC kindOf binds m x=m x
 | [],_,_=>rfl
 | (n,v)::r,m,h=>by
  unfold bindC
  rw[Jis λ w hw=>h w (Zt _ hw)]
  split
  ·rfl
  ·have:x≠n:=by rintro rfl;exact h v Zv
   simp[this]
theorem Jit {kindOf:Str->Option Zbb}{x:Str}{v:Zd}:∀{P:List Str}{vs:List Zd}{i:Nat}{m:Str->Option Zd},P.Nodup->P[i]?=Za x->vs[i]?=Za v->kindOf x=Za .local ->
  bindL kindOf (P.zip vs) m x=Za v
 | [],_,_,_,_,h,_,_=>by simp at h
 | _::_,[],_,_,_,_,h,_=>by simp at h
 | p::P,w::vs,0,m,nd,h1,h2,hk=>by
  simp at h1 h2;subst h1;subst h2
  show bindL kindOf ((p,w)::P.zip vs) m p=_
  unfold bindL
  rw[Jiu λ v hv=>(ZaL.mp nd).1 (Zda hv).1,if_pos hk]
  simp
 | p::P,w::vs,i+1,m,nd,h1,h2,hk=>by
  show bindL kindOf ((p,w)::P.zip vs) m x=_
  unfold bindL
  exact Jit (i:=i) (ZaL.mp nd).2 (by simpa using h1) (by simpa using h2) hk
theorem Jir {kindOf:Str->Option Zbb}{x:Str}{v:Zd}:∀{P:List Str}{vs:List Zd}{i:Nat}{m:Str->Option Zd},P.Nodup->P[i]?=Za x->vs[i]?=Za v->kindOf x≠Za .local ->
  bindC kindOf (P.zip vs) m x=Za v
 | [],_,_,_,_,h,_,_=>by simp at h
 | _::_,[],_,_,_,_,h,_=>by simp at h
 | p::P,w::vs,0,m,nd,h1,h2,hk=>by
  simp at h1 h2;subst h1;subst h2
  show bindC kindOf ((p,w)::P.zip vs) m p=_
  unfold bindC
  rw[Jis λ v hv=>(ZaL.mp nd).1 (Zda hv).1,if_neg hk]
  simp
 | p::P,w::vs,i+1,m,nd,h1,h2,hk=>by
  show bindC kindOf ((p,w)::P.zip vs) m x=_
  unfold bindC
  exact Jir (i:=i) (ZaL.mp nd).2 (by simpa using h1) (by simpa using h2) hk
def start (N:List Str)(vs:List V):St:=vs.map Za++ZN (N.length-vs.length) Zb
def cxOf (CX:CXT)(P:ZA)(w:ZM)(K:W.Frag)(mg:Str->Option Zd)(base:ZT)(N:List Str)(qual:Str)(scope:Zba)(f:Zi)(cd:Zd)(A:ZG)(outer:List Env)(s:Zk)(H:Hp)(E:XK):Cx where
 prog:=P
 w:=w
 K:=K
 mg:=mg
 base:=base
 A:=A.deeper (ZcK qual scope s.heap.objs.size f cd)
 N:=N
 s₀:=s
 H₀:=H
 env:=ZcK qual scope s.heap.objs.size f cd
 outer:=outer
 stack:=ZcK qual scope s.heap.objs.size f cd::outer
 ex:=[]
 calm:=Ze
 fn:=λ _=>Ze
 pn:=[]
 xe:=λ e s'=>Zq (Z1 P w) (A.deeper (ZcK qual scope s.heap.objs.size f cd)) (leaving (ZcK qual scope s.heap.objs.size f cd) e) (λ _ s''=>CX outer H s E e s'') (λ e' s''=>CX outer H s E e' s'') s'
theorem Jk3 {sc:Zba}{n:Nat}{x:Str}(h:sc.names.lookup x=Za .cell):∃c,(cellsFrom n sc.names []).lookup x=Za c:=by
 have q:=W.cellsFrom_some sc.names n [] (.inl h)
 exact Za0.mp q
theorem Jjc {CX:CXT}{P:ZA}{w:ZM}{K:W.Frag}{mg:Str->Option Zd}{base:ZT}{N ps:List Str}{qual:Str}{scope:Zba}{f:Zi}{cd:Zd}{A:ZG}{outer:List Env}{s s1:Zk}{H:Hp}{E:XK}{us:List Zd}{vs:List V}
  (S:FnScope N ps scope)(hd:A.handled=Zb)(e0:Env0 P w K mg base A outer s H)(hl:vs.length=ps.length)(r:Vals vs us)
  (x:InCallC s s.heap.objs.size (bindL (ZcK qual scope s.heap.objs.size f cd).kindOf (ps.zip us) λ _=>Zb) (cellsFrom (s.heap.objs.size+1) scope.names []) (bindC (ZcK qual scope s.heap.objs.size f cd).kindOf (ps.zip us) λ _=>Zb) s1) :
  Inv (cxOf CX P w K mg base N qual scope f cd A outer s H E) [] (start N vs) H s1:=by
 have hpl:ps.length<=N.length:=by have:=congrArg List.length S.pre;rw[Zad] at this;omega
 obtain⟨h1,tk,rfl,hk⟩:=x.done
 have noA:∀b:Zi,b∉(cxOf CX P w K mg base N qual scope f cd A outer s H E).ex:=λ b z=>absurd (show b∈([]:List Zi) from z) (by simp)
 refine⟨⟨e0.mod,S.kind,rfl,rfl,Zr _,λ y z c h1 h2=>?_,λ y hy=>?_,λ y c _ h=>?_,λ _=>hd,Around.frames_deeper e0.frames,.inr ⟨rfl,rfl⟩,λ b z=>absurd z (noA b),e0.bs,e0.bsz,λ b _ _=>noA b,λ b z=>absurd z (noA b),e0.funs,e0.frf⟩,
  rfl,e0.bare,Un.kept hk,⟨_,x.toInCall.ns,λ i y v h1 h2 h3=>?_⟩,λ y c h=>⟨_,x.cell y c h⟩,e0.hok.fresh (Zr _),λ y c h=>?_,λ p hp=>absurd (show p∈([]:PnT) from hp) (by simp),e0.hok.kept hk,?_⟩
 ·exact name_of_addr x.apart (ZV h1) (ZV h2)
 ·have hy:scope.names.lookup y=Za .cell∨scope.names.lookup y=Za .free:=hy
  rcases hy with hy|hy
  ·exact Jk3 hy
  ·exact absurd rfl (S.nofree _ (ZV hy))
 ·exact Zc6 (x.above y c (ZV h))
 ·have hi:i<vs.length:=by
   unfold start at h2
   by_cases hi:i<vs.length
   ·exact hi
   ·rw[Zu (by simpa using hi)] at h2
    rw[ZbD] at h2
    split at h2<;>cases h2
  have ha:vs[i]?=Za v:=by
   unfold start at h2
   rw[Z7 (by simpa using hi),Z0] at h2
   cases e:vs[i]? with
   | none=>rw[e] at h2;cases h2
   | some a=>rw[e] at h2;cases h2;rfl
  obtain⟨u,hu,rv⟩:=r.get ha
  have hp:ps[i]?=Za y:=by
   rw[<- S.pre,List.getElem?_take_of_lt (by omega)];exact h1
  have ndP:ps.Nodup:=by rw[<- S.pre];exact S.nd.sublist (List.take_sublist _ _)
  refine⟨u,rv,?_⟩
  rcases S.par y (Zcb hp) with k|k
  ·exact .inl ⟨k,Jit ndP hp hu k⟩
  ·obtain⟨c,e⟩:=Jk3 (n:=s.heap.objs.size+1) k
   refine .inr ⟨.inl k,c,e,?_⟩
   have q:=x.cell y c e
   rw[Jir ndP hp hu (by show scope.names.lookup y≠_;rw[k];decide)] at q
   exact q
 ·exact e0.hok.fresh (Zc6 (x.above y c (ZV h)))
 ·unfold start
  show _=N.length
  rw[ZE,Zo,ZbS]
  omega
theorem Jxu {CX:CXT}{P:ZA}{w:ZM}{K:W.Frag}{mg:Str->Option Zd}{base:ZT}{k:Nat}{f:Zi}{name qual:Str}{params:ZcL}{body:List Zbv}{scope:Zba}{dV kV doc pm cdv ct oc:Zd}{an od:Option Zi}
  {osl:Array (Option Zd)}{N ps:List Str}{sp:Sp}(lk:K.lookup f=Za ⟨oc,od,.func (W.fnOf name qual params body scope dV kV doc pm an cdv ct),osl⟩)(hcd:W.codeIn K cdv qual=Ze)(S:FnScope N ps scope)
  (len:∀vs H Q E,sp vs H Q E->vs.length=ps.length)
  (hbody:∀(A:ZG)(outer:List Env)(s:Zk)(H:Hp)(vs:List V)(Q:VK)(E:XK),Room k (A.deeper (ZcK qual scope s.heap.objs.size f cdv))->sp vs H Q E ->
   ∃t,PSs (cxOf CX P w K mg base N qual scope f cdv A outer s H E) body t/\t { nx:=λ _ H'=>Q .non H',rt:=Q } (start N vs) H) :
  FnOk P w K mg base CX (k+1) f (W.fnOf name qual params body scope dV kV doc pm an cdv ct) ps sp:=by
 refine⟨len,λ A outer s H args us vs Q E hr e0 hb r hsp=>?_⟩
 have hl:=len _ _ _ _ hsp
 have KX:K.In s.heap:=e0.mod.kin.keeps λ b o e=>(e0.bs b o e).1
 have lim:s.heap.NoLimit:=e0.mod.nolimit.keeps λ b o e=>(e0.bs b o e).1
 have hkind:∀y∈ps.zip us,scope.names.lookup y.1=Za .local∨(scope.names.lookup y.1=Za .cell/\((cellsFrom (s.heap.objs.size+1) scope.names []).lookup y.1).isSome=Ze):=λ ⟨n,v⟩ hy=>by
  rcases S.par n (Zda hy).1 with q|q
  ·exact .inl q
  ·exact .inr ⟨q,W.cellsFrom_some _ _ _ (.inl q)⟩
 refine Zed hr.depth (KX _ _ lk) rfl S.co S.gen rfl (W.codeRec_of KX hcd) (hb _ _ _ _ ?_)
 refine Zds S.kind hkind λ env he s1 x=>?_
 subst he
 refine⟨lim.keeps x.toInCall.keep,codeAny_func ?_⟩
 obtain⟨t,ht,hq⟩:=hbody A outer s H vs Q E (hr.deeper _) hsp
 have I:Inv (cxOf CX P w K mg base N qual scope f cdv A outer s H E) [] (start N vs) H s1:=Jjc S hr.hd e0 hl r x
 refine ZP (ht [] s1 (start N vs) H _ I hq) (λ fl s' hs=>?_) λ e s' hs=>hs
 have fin:∀{σ':St}{H':Hp}{v:V}{u:Zd},Inv (cxOf CX P w K mg base N qual scope f cdv A outer s H E) [] σ' H' s'->RelV v u->Q v H'->CE outer P w H s Q u s' :=
  λ {σ' H' v u} J rv q=>⟨v,H',J.os,J.bare,J.base,J.hok,rv,q⟩
 cases fl with
 | ret u =>
  obtain⟨v,σ',H',J,rv,q⟩:=hs
  exact fin J rv q
 | next =>
  obtain⟨σ',H',J,q⟩:=hs
  exact fin (v:=V.non) (u:=Zaf) J rfl q
 | brk =>
  obtain⟨_,_,_,q⟩:=hs
  exact Za2 q
 | cont =>
  obtain⟨_,_,_,q⟩:=hs
  exact Za2 q
section
variable {X:Cx}{x:Str}{p pos:Pos}{e:Expr}{es:List Expr}{t:TA}{id T:String}{r:List V->Hp->VK->Prop}
end
end L2
namespace HT
open PySem PyProof.Rows
section
open PySem.SeqAt
open PySem.AutoSeq1 (wpAny_loadPart')
open PySem.MeetsSeq PySem.MeetsSeq2 PySem.MeetsSeq3
end
section
variable {prog:ZA}{w:ZM}{A:ZG}{E:QvT}{s:Zk}
theorem cat_tup {t b:Zi}{vs ws:List Zd}{Q:QvT}(ht:IsTup s.heap t vs.toArray)(hb:IsTup s.heap b ws.toArray)(hv:vs≠[])
  (h1:ws=[]->Q (.ref t) s)(h2:ws≠[]->Q (.ref s.heap.objs.size) { s with heap:=s.heap.push { cls:=.type "tuple",data:=.seq (vs++ws).toArray } })
  (hsz:vs.length+ws.length<=sizeLine):Zq (Z1 prog w) A (ZaQ .Add (.ref t) (.ref b)) Q E s:=by
 obtain⟨⟨cls,dd,data,sl⟩,ho,hc,n,hd⟩:=id ht
 obtain⟨⟨cls2,dd2,data2,sl2⟩,ho2,hc2,n2,hd2⟩:=id hb
 simp only at hc hd hc2 hd2
 subst hc hd hc2 hd2
 have e:vs.toArray++ws.toArray=(vs++ws).toArray:=by simp
 by_cases hw:ws=[]
 ·exact concat_meets ⟨_,ho,rfl⟩ ⟨_,ho2,rfl⟩ noFill_tuple_add seq_tuple_add ZdS ZdI (Zd9 _ _)
   (tuple_addW1 t b vs.toArray ws.toArray n n2 dd dd2 sl sl2 (by simpa using hv) (by simp[hw])) ⟨ho,ho2,h1 hw⟩
 ·refine concat_meets ⟨_,ho,rfl⟩ ⟨_,ho2,rfl⟩ noFill_tuple_add seq_tuple_add ZdS ZdI (Zd9 _ _)
   (tuple_addW2 t b vs.toArray ws.toArray n n2 dd dd2 sl sl2 (by simpa using hv) (by simpa using hw) (by rw[Zz,Zz];exact hsz)) ⟨ho,ho2,?_⟩
  rw[e]
  exact h2 hw
def sIx (n d:Nat):Option Int->Nat
 | none=>d
 | some v=>if v<0 then(v+(n:Int)).toNat else min v.toNat n
theorem sIx_none (n d:Nat):sIx n d Zb=d:=rfl
theorem sIx_nat (n d k:Nat):sIx n d (Za (k:Int))=min k n:=by
 show(if (k:Int)<0 then((k:Int)+(n:Int)).toNat else min (k:Int).toNat n)=min k n
 rw[if_neg (by omega),ZcA]
end
end HT
namespace L2
open PySem PySem.Spec PyProof.Rows
abbrev TO:=St->Hp->(Option Int->Hp->Prop)->Prop
section
variable {X:Cx}{e:Expr}{te:TE}{lo hi:Option Expr}{tl th:TO}{pos p2:Pos}
def SlR (X:Cx)(r:V->Option Int->Option Int->Hp->VK->Prop):Prop :=
 ∀(pj:PnT)(s:Zk)(σ:St)(H:Hp)(x:V)(v vl vu:Zd)(lo hi:Option Int)(sl:Zi)(Q:VK),Inv X pj σ H s->RelV x v->s.heap.IsSliceOf sl vl vu .none->ZeD vl lo->ZeD vu hi->r x lo hi H Q ->
  ∃T id,Zez (.type T) "__getitem__"=pure (Za (.builtin id))/\s.TypeIs v T/\Zq (Z1 X.prog X.w) X.A (Zeq v (.ref sl)) (EP X pj σ Q) X.xe s
def cutV (xs:List V)(lo hi:Option Int):List V:=(xs.drop (HT.sIx xs.length 0 lo)).take (HT.sIx xs.length xs.length hi-HT.sIx xs.length 0 lo)
theorem Jj7 (xs:List V)(lo hi:Option Int):(cutV xs lo hi).length<=xs.length:=by
 unfold cutV
 rw[Zad,ZcM]
 omega
def J1j (K:W.Frag):R2:=λ x y H Q=>∃a b xs ys,x=.ref a/\y=.ref b/\SqT K H a xs/\SqT K H b ys/\xs≠[]/\xs.length+ys.length<=sizeLine /\
 (ys=[]->Q (.ref a) H)/\(ys≠[]->∀p,H p=Zb->Q (.ref p) (upd H p (.tup (xs++ys))))
theorem Vals.nil_iff {xs:List V}{us:List Zd}(r:Vals xs us):us=[]↔xs=[]:=by
 cases r with
 | nil=>simp
 | cons _ _=>simp
theorem Jv3:OpR X (ZaQ .Add) (J1j X.K):=by
 intro pj s σ H x y v u Q I rx ry h
 obtain⟨a,b,xs,ys,rfl,rfl,ha,hb,hx,hz,q1,q2⟩:=h
 cases rx
 cases ry
 obtain⟨its,r1,p1,_⟩:=I.tuple ha
 obtain⟨its2,r2,p2,_⟩:=I.tuple hb
 refine HT.cat_tup p1 p2 (λ z=>hx (r1.nil_iff.mp z)) (λ z=>⟨.ref a,H,I,rfl,q1 (r2.nil_iff.mp z)⟩) (λ z=>?_) (by rw[<- r1.length,<-r2.length];exact hz)
 refine⟨.ref s.heap.objs.size,_,I.laid (t':=s.toks) (o:=.tup (xs++ys)) (λ b ob q=>Zg _ q) (Zr _) ?_,rfl,q2 (λ w=>z (r2.nil_iff.mpr w)) _ (I.hok.fresh (Zr _))⟩
 exact⟨by rw[ZE];exact hz,_,r1.append r2,IsTup.new _ _⟩
end
noncomputable def ixN (n:Nat)(i:Int):Option Nat:=if 0<=i then(if i<n then Za i.toNat else Zb) else if -(n:Int)<=i then Za (i+n).toNat else Zb
noncomputable def atI {α:Type}(xs:List α)(i:Int):Option α:=(ixN xs.length i).bind λ j=>xs[j]?
theorem Jvn {n:Nat}{i:Int}{j:Nat}(h:ixN n i=Za j):seqIndex? i n=Za j/\j<n/\ -(n:Int)<=i/\i<n:=by
 unfold ixN at h
 by_cases h0:0<=i
 ·rw[if_pos h0] at h
  by_cases h1:i<n
  ·rw[if_pos h1] at h
   have e:i.toNat=j:=Zaj h
   exact⟨by rw[seqIndex_of h0 h1,e],by omega,by omega,h1⟩
  ·rw[if_neg h1] at h;cases h
 ·rw[if_neg h0] at h
  by_cases h1: -(n:Int)<=i
  ·rw[if_pos h1] at h
   have e:(i+n).toNat=j:=Zaj h
   exact⟨by rw[seqIndex_neg (by omega) h1,e],by omega,h1,by omega⟩
  ·rw[if_neg h1] at h;cases h
theorem Jj2 {α:Type}{xs:List α}{i:Int}{v:α}(h:atI xs i=Za v):∃j,seqIndex? i xs.length=Za j/\xs[j]?=Za v/\j<xs.length/\ -(xs.length:Int)<=i/\i<xs.length:=by
 unfold atI at h
 cases e:ixN xs.length i with
 | none=>rw[e] at h;cases h
 | some j =>
  rw[e] at h
  obtain⟨h1,h2,h3,h4⟩:=Jvn e
  exact⟨j,h1,h,h2,h3,h4⟩
def Jnh (b:Expr):Prop:=∀o i,Zej b Zj o i=operate [o,i] (Zeq o i)
def IxR (X:Cx)(r:R2):Prop :=
 ∀(value slice:Expr)(pj:PnT)(s:Zk)(σ:St)(H:Hp)(x y:V)(v u:Zd)(Q:VK),Inv X pj σ H s->RelV x v->RelV y u->r x y H Q ->
  Zej slice Zj v u=operate [v,u] (Zeq v u)->Zq (Z1 X.prog X.w) X.A (ZdA value slice v u) (EP X pj σ Q) X.xe s
section
variable {X:Cx}{a b:Expr}{ta tb:TE}{pos:Pos}
def rIxL (K:W.Frag):R2:=λ x y H Q=>∃p xs i v,x=.ref p/\y=.int i/\SqL K H p xs/\atI xs i=Za v/\Q v H
def rIxT (K:W.Frag):R2:=λ x y H Q=>∃p xs i v,x=.ref p/\y=.int i/\SqT K H p xs/\atI xs i=Za v/\Q v H
def rIxS:R2:=λ x y H Q=>∃z i c,x=.str z/\y=.int i/\z.length<=sizeLine/\atI z.cps.toList i=Za c/\Q (.str ⟨#[c]⟩) H
theorem Jo0:IxR X (rIxL X.K):=by
 intro value slice pj s σ H x y v u Q I rx ry h hs
 obtain⟨p,xs,i,z,rfl,rfl,hq,he,q⟩:=h
 cases rx
 obtain⟨t,rfl⟩:=ry
 obtain⟨its,r,pl,hz⟩:=I.list hq
 obtain⟨j,h1,h2,h3,h4,h5⟩:=Jj2 he
 obtain⟨w,ew,rw'⟩:=r.get h2
 have hl:=r.length
 have hn:=XJ
 have fin:EP X pj σ Q w s:=⟨z,H,I,rw',q⟩
 by_cases h0:0<=i
 ·have hj:i.toNat=j:=by
   rw[seqIndex_of h0 h5] at h1
   exact Zaj h1
  exact item_listR pl.isList h0 (by omega) (by rw[hj];simpa using ew) fin hs
 ·have hj:(i+(its.toArray.size:Int)).toNat=j:=by
   rw[seqIndex_neg (by omega) h4] at h1
   rw[Zz,<-hl]
   exact Zaj h1
  exact ZcB (x:=w) pl.isList.typeIs slot_list_getitem.lookup
   (wpAny_getItem_list_neg (Q:=λ r s'=>r=w/\EP X pj σ Q r s') pl.isList (by omega) (by rw[Zz]<;>omega) (by omega) (by rw[hj];simpa using ew) ⟨rfl,fin⟩) hs
theorem Jyl:IxR X (rIxT X.K):=by
 intro value slice pj s σ H x y v u Q I rx ry h hs
 obtain⟨p,xs,i,z,rfl,rfl,hq,he,q⟩:=h
 cases rx
 obtain⟨t,rfl⟩:=ry
 obtain⟨its,r,pl,hz⟩:=I.tuple hq
 obtain⟨j,h1,h2,h3,h4,h5⟩:=Jj2 he
 obtain⟨w,ew,rw'⟩:=r.get h2
 have hl:=r.length
 have hn:=XJ
 have fin:EP X pj σ Q w s:=⟨z,H,I,rw',q⟩
 exact ZcB (x:=w) pl.typeIs slot_tuple_getitem.lookup
  (getItem_tuple (j:=j) (Q:=λ r s'=>r=w/\EP X pj σ Q r s') pl (by omega) (by omega) (by rw[Zz,<-hl];exact h1) (by simpa using ew) ⟨rfl,fin⟩) hs
theorem Jyk:IxR X rIxS:=by
 intro value slice pj s σ H x y v u Q I rx ry h hs
 obtain⟨z,i,c,rfl,rfl,hz,he,q⟩:=h
 obtain⟨t,rfl⟩:=rx
 obtain⟨t',rfl⟩:=ry
 obtain⟨j,h1,h2,h3,h4,h5⟩:=Jj2 he
 have hl:z.cps.toList.length=z.length:=by simp[Str.length]
 rw[hl] at h1 h4 h5
 have hn:=XJ
 exact tail_any (typeIs_str s z t) slot_str_getitem.lookup (getItem_str (c:=c) (by
  have e1:decide (i< -(2^63:Int))=Zj:=decide_eq_false (by omega)
  have e2:decide (i ≥ 2^63)=Zj:=decide_eq_false (by omega)
  rw[e1,e2,Bool.or_false]) (by rw[h1];simpa using h2) ⟨.str ⟨#[c]⟩,H,I.tok _,⟨_,rfl⟩,q⟩) hs
theorem Inv.lst {pj:PnT}{σ:St}{H:Hp}{s:Zk}{p:Zi}{xs:List V}(I:Inv X pj σ H s)(h:H p=Za (.lst xs)) :
  ∃(its:List Zd) (n:Nat),Vals xs its/\s.heap.get? p=Za { cls:=.type "list",data:=.seq its.toArray n }/\xs.length<=sizeLine:=by
 obtain⟨z,its,n,r,e⟩:=I.hok p _ h
 exact⟨its,n,r,e,z⟩
theorem Jj0 (lo hi:Option Int)(n:Nat):(ZbK lo hi Zb n).1=((HT.sIx n 0 lo:Nat):Int)/\(ZbK lo hi Zb n).2.1=((HT.sIx n n hi:Nat):Int)/\(ZbK lo hi Zb n).2.2=1:=by
 refine⟨?_,?_,rfl⟩
 ·cases lo with
  | none=>simp[ZbK,HT.sIx]
  | some i =>
   simp only[ZbK,HT.sIx,Option.getD_none,show(1:Int)>0 by decide,if_true]
   by_cases h:i<0
   ·simp only[h,if_true]<;>omega
   ·simp only[h,if_false]<;>omega
 ·cases hi with
  | none=>simp[ZbK,HT.sIx]
  | some i =>
   simp only[ZbK,HT.sIx,Option.getD_none,show(1:Int)>0 by decide,if_true]
   by_cases h:i<0
   ·simp only[h,if_true]<;>omega
   ·simp only[h,if_false]<;>omega
theorem Jib (its:List Zd)(lo hi:Option Int):ZeE its.toArray lo hi Zb=((its.drop (HT.sIx its.length 0 lo)).take (HT.sIx its.length its.length hi-HT.sIx its.length 0 lo)).toArray:=by
 obtain⟨h1,h2,h3⟩:=Jj0 lo hi its.toArray.size
 unfold ZeE
 rw[h1,h2,h3]
 simp only[sliceRange_one,pick_run,Zz]<;>rfl
def rSlL (K:W.Frag):V->Option Int->Option Int->Hp->VK->Prop:=λ x lo hi H Q=>∃a xs,x=.ref a/\SqL K H a xs/\∀p,H p=Zb->Q (.ref p) (upd H p (.lst (cutV xs lo hi)))
theorem Jpr:SlR X (rSlL X.K):=by
 intro pj s σ H x v vl vu lo hi sl Q I rx hs pl pu h
 obtain⟨a,xs,rfl,hx,q⟩:=h
 cases rx
 obtain⟨its,r,ht,hz⟩:=I.list hx
 have hlen:=r.length
 refine⟨"list",_,slot_list_getitem.lookup,ht.isList.typeIs,?_⟩
 refine ZdB ht.isList hs pl pu .none (by simp) ?_ (by rw[Zz]<;>omega)
 rw[Jib,<-hlen]
 refine⟨.ref s.heap.objs.size,_,I.laid (t':=s.toks) (o:=.lst (cutV xs lo hi)) (λ b ob q=>Zg _ q) (Zr _) ?_,rfl,q _ (I.hok.fresh (Zr _))⟩
 exact⟨Zah (Jj7 xs lo hi) hz,_,0,(r.drop (HT.sIx xs.length 0 lo)).take (HT.sIx xs.length xs.length hi-HT.sIx xs.length 0 lo),Zy _ rfl⟩
theorem Jcx:VQ X (.type "list") (λ xs H Q=>∃p ys,xs=[.ref p]/\(SqL X.K H p ys∨SqT X.K H p ys)/\∀l,H l=Zb->Q (.ref l) (upd H l (.lst ys))):=by
 intro pj s σ H xs us Q I r h
 obtain⟨p,ys,rfl,hq,q⟩:=h
 obtain⟨u,rfl,rx⟩:=Qq r
 cases rx
 have fin:∀(its:List Zd),Vals ys its->ys.length<=sizeLine->∀(h':ZT)(c':Nat),(∀b o',s.heap.get? b=Za o'->h'.get? b=Za o') ->
   h'.get? s.heap.objs.size=Za { cls:=.type "list",dict:=Zb,data:=.seq its.toArray c',slots:=#[] }->EP X pj σ Q (.ref s.heap.objs.size) { s with heap:=h' }:=λ its r' hz h' c' kp e =>
  ⟨.ref s.heap.objs.size,_,I.laid (t':=s.toks) kp (Zr _) (show JE X.prog X.w _ h' _ (.lst ys) from⟨hz,its,c',r',e⟩),rfl,q _ (I.hok.fresh (Zr _))⟩
 rcases hq with hq|hq
 ·obtain⟨its,r',pl,hz⟩:=I.list hq
  have hlen:=r'.length
  obtain⟨o,ho,hc,n,hd⟩:=pl.isList
  exact call_list_seq p (.inl rfl) ho hc hd (λ h' c' kp e=>fin its r' hz h' c' kp e) (by simp only[Zz]<;>omega)
 ·obtain⟨its,r',pl,hz⟩:=I.tuple hq
  have hlen:=r'.length
  obtain⟨o,ho,hc,n,hd⟩:=pl
  exact call_list_seq p (.inr rfl) ho hc hd (λ h' c' kp e=>fin its r' hz h' c' kp e) (by simp only[Zz]<;>omega)
theorem Jd2:VQ X (.type "tuple") (λ xs H Q=>∃p ys,xs=[.ref p]/\((SqL X.K H p ys/\∀l,H l=Zb->Q (.ref l) (upd H l (.tup ys)))∨(SqT X.K H p ys/\Q (.ref p) H))):=by
 intro pj s σ H xs us Q I r h
 obtain⟨p,ys,rfl,h⟩:=h
 obtain⟨u,rfl,rx⟩:=Qq r
 cases rx
 rcases h with⟨hq,q⟩|⟨hq,q⟩
 ·obtain⟨its,r',pl,hz⟩:=I.list hq
  have hlen:=r'.length
  refine call_tuple_list pl.isList (λ h' kp=>?_) (by simp only[Zz]<;>omega)
  have I1:Inv X pj σ H { s with heap:=h' }:=I.kept (t':=s.toks) kp
  have I2:Inv X pj σ (upd H h'.objs.size (.tup ys)) { s with heap:=h'.push { cls:=.type "tuple",data:=.seq its.toArray } } :=
   I1.laid (t':=s.toks) (λ b o e=>Zg _ e) (Zr _) (show JE X.prog X.w _ _ _ (.tup ys) from⟨hz,its,r',IsTup.new _ _⟩)
  exact⟨.ref h'.objs.size,_,I2,rfl,q _ (I1.hok.fresh (Zr _))⟩
 ·obtain⟨its,r',pl,hz⟩:=I.tuple hq
  exact call_tuple_same pl ⟨.ref p,H,I,rfl,q⟩
def tyV (K:W.Frag)(T:String)(x:V)(H:Hp):Prop:=match x with
 | .str _=>T="str"
 | .int _=>T="int"
 | .ref p=>(T="list"/\∃xs,SqL K H p xs)∨(T="tuple"/\∃o,K.lookup p=Za o/\o.cls=.type "tuple"/\o.dict=Zb) ∨
   (T="dict"/\((∃kvs,H p=Za (.dK kvs))∨∃kvs,H p=Za (.dT kvs)))∨(T="set"/\∃S n,H p=Za (.set S n))
 | _=>False
theorem Juc {pj:PnT}{σ:St}{H:Hp}{s:Zk}{T:String}{x:V}{v:Zd}(I:Inv X pj σ H s)(r:RelV x v)(ty:tyV X.K T x H) :
  s.TypeIs v T/\∀a,v=.ref a->∃ob,s.heap.get? a=Za ob/\ob.dict=Zb:=by
 cases x with
 | str z =>
  obtain⟨t,rfl⟩:=r
  cases (show T="str" from ty)
  exact⟨typeIs_str s z t,λ _ e=>nomatch e⟩
 | int i =>
  obtain⟨t,rfl⟩:=r
  cases (show T="int" from ty)
  exact⟨typeIs_int s i t,λ _ e=>nomatch e⟩
 | ref p =>
  cases r
  rcases ty with⟨rfl,xs,hq⟩|⟨rfl,o,hk,hc,hd⟩|⟨rfl,hk⟩|⟨rfl,S,n,hk⟩
  ·obtain⟨its,_,pl,_⟩:=I.list hq
   refine⟨pl.isList.typeIs,λ a e=>?_⟩
   cases e
   obtain⟨o,n,e,c,hd,_⟩:=pl
   exact⟨o,e,hd⟩
  ·refine⟨⟨o,I.kIn p o hk,hc⟩,λ a e=>?_⟩
   cases e
   exact⟨o,I.kIn _ o hk,hd⟩
  ·have z:∃o,s.heap.get? p=Za o/\o.ExactDict:=by
    rcases hk with⟨kvs,hk⟩|⟨kvs,hk⟩
    ·obtain⟨_,_,_,_,o,_,_,e,ex,_⟩:=I.hok p _ hk
     exact⟨o,e,ex⟩
    ·obtain⟨_,_,_,_,o,_,_,e,ex,_⟩:=I.hok p _ hk
     exact⟨o,e,ex⟩
   obtain⟨o,e,ex⟩:=z
   refine⟨⟨o,e,ex.1⟩,λ a e2=>?_⟩
   cases e2
   exact⟨o,e,ex.2.1⟩
  ·obtain⟨o,_,_,_,e,ex,_⟩:=I.hok p _ hk
   refine⟨⟨o,e,ex.1⟩,λ a e2=>?_⟩
   cases e2
   exact⟨o,e,ex.2.1⟩
 | _=>exact Za2 ty
variable {o e:Expr}{es:List Expr}{to:TE}{t:TA}{name:Str}{apos cpos:Pos}{T id:String}{r:V->List V->Hp->VK->Prop}
end
def MtM (X:Cx)(id:String)(r:V->List V->Hp->VK->Prop):Prop :=
 ∀(pj:PnT)(s:Zk)(σ:St)(H:Hp)(x:V)(xs:List V)(v:Zd)(us:List Zd)(Q:VK),Inv X pj σ H s->RelV x v->Vals xs us->r x xs H Q ->
  Zq (Z1 X.prog X.w) X.A (call (.builtin id) (v::us)) (EP X pj σ Q) X.xe s
theorem Vals.one:∀{x:V}{us:List Zd},Vals [x] us->∃u,us=[u]/\RelV x u
 | _,_,.cons r .nil=>⟨_,rfl,r⟩
theorem Vals.two:∀{x y:V}{us:List Zd},Vals [x,y] us->∃u v,us=[u,v]/\RelV x u/\RelV y v
 | _,_,_,.cons r (.cons q .nil)=>⟨_,_,rfl,r,q⟩
theorem Vals.zero:∀{us:List Zd},Vals [] us->us=[]
 | _,.nil=>rfl
theorem Vals.eraseIdx:∀{xs:List V}{us:List Zd}(i:Nat),Vals xs us->Vals (xs.eraseIdx i) (us.eraseIdx i)
 | _,_,_,.nil=>.nil
 | _,_,0,.cons _ t=>t
 | _,_,i+1,.cons r t=>.cons r (Vals.eraseIdx i t)
theorem Vals.reverse {xs:List V}{us:List Zd}(h:Vals xs us):Vals xs.reverse us.reverse:=by
 induction h with
 | nil=>exact .nil
 | cons r t ih=>rw[List.reverse_cons,List.reverse_cons];exact Vals.append ih (.cons r .nil)
theorem Vals.rep {xs:List V}{us:List Zd}(h:Vals xs us):∀k:Nat,Vals (ZN k xs).flatten (ZN k us).flatten
 | 0=>.nil
 | k+1=>by
  rw[ZaZ,ZaZ,Zb2,Zb2]
  exact Vals.append h (Vals.rep h k)
theorem Jgd {α:Type}:∀(l:List α)(i:Nat),(l.eraseIdx i).length<=l.length
 | [],_=>Zr _
 | _::_,0=>Zao _
 | _::r,i+1=>Zcg (Jgd r i)
theorem Ji1 (its:List Zd):∀(k:Nat)(acc:List Zd),
  List.foldl (λ x1 x2=>x1++x2) acc.toArray (ZN k its.toArray)=(acc++(ZN k its).flatten).toArray
 | 0,acc=>by simp
 | k+1,acc=>by
  have e:acc.toArray++its.toArray=(acc++its).toArray:=by simp
  have e2:(acc++its)++(ZN k its).flatten=acc++(ZN (k+1) its).flatten:=by
   rw[ZaZ,Zb2,ZF]
  rw[<- e2,<-Ji1 its k (acc++its),<-e,ZaZ,List.foldl_cons]
section
variable {X:Cx}{pj:PnT}{σ:St}{H:Hp}{s:Zk}{l b:Zi}{xs ys zs:List V}
theorem Inv.lset {its its':List Zd}{n:Nat}{f:Array Zd->Array Zd}{t':Nat}(I:Inv X pj σ H s)(hH:H l=Za (.lst xs))
  (e:s.heap.get? l=Za { cls:=.type "list",data:=.seq its.toArray n })(hf:f its.toArray=its'.toArray)(hv:Vals ys its')(hz:ys.length<=sizeLine) :
  Inv X pj σ (upd H l (.lst ys)) { s with heap:=s.heap.update l (ZcN f),toks:=t' }:=by
 have q:=PySem.IsL.update e f
 rw[hf] at q
 refine I.write (x:=l) (e:=l) (by rw[hH];exact trivial) (.inl rfl) (λ b' u hb hu=>(Z2 s.heap (ZcN f) (ZW hb)).trans hu) ⟨_,q⟩ ?_
 exact⟨hz,its',_,hv,q⟩
theorem Inv.lnew {its:List Zd}{t':Nat}(I:Inv X pj σ H s)(hv:Vals ys its)(hz:ys.length<=sizeLine) :
  Inv X pj σ (upd H s.heap.objs.size (.lst ys)) { s with heap:=s.heap.push { cls:=.type "list",data:=.seq its.toArray },toks:=t' } :=
 I.laid (λ _ _ q=>Zg _ q) (Zr _) ⟨hz,its,0,hv,Zy _ rfl⟩
theorem Inv.fresh (I:Inv X pj σ H s):H s.heap.objs.size=Zb:=I.hok.fresh (Zr _)
theorem Inv.lstM (I:Inv X pj σ H s)(hH:H l=Za (.lst xs)):xs.length<=sizeLine/\∃(its:List Zd) (n:Nat),Vals xs its/\xs.length=its.length/\s.heap.get? l=Za { cls:=.type "list",data:=.seq its.toArray n }:=by
 obtain⟨z,its,n,r,e⟩:=I.hok l _ hH
 exact⟨z,its,n,r,r.length,e⟩
theorem Jll {n:Nat}(h:n<=sizeLine):Zb8 n=Zj:=by
 unfold Zb8
 exact decide_eq_false (by omega)
end
section
variable {X:Cx}
def Jv8:V->List V->Hp->VK->Prop:=λ x vs H Q=>∃l xs y,x=.ref l/\vs=[y]/\H l=Za (.lst xs)/\xs.length<sizeLine/\Q .non (upd H l (.lst (xs++[y])))
theorem Jji:MtM X "list.append" Jv8:=by
 intro pj s σ H x vs v us Q I rx rv h
 obtain⟨l,xs,y,rfl,rfl,hH,hz,q⟩:=h
 cases rx
 obtain⟨u,rfl,ru⟩:=rv.one
 obtain⟨z,its,n,r,hl,e⟩:=I.lstM hH
 refine ZcO F.slot_list_append ⟨_,e,rfl⟩ F.entry_list_append (F.args_list_append_2 _ _) (PySem.list_append l its.toArray n u (by rw[Zz];omega)) ⟨e,?_⟩
 refine⟨.non,_,I.lset (its':=its++[u]) hH e (by simp) (r.append (.cons ru .nil)) ?_,rfl,q⟩
 rw[ZE,ZbT]
 omega
def Jv9:V->List V->Hp->VK->Prop:=λ x vs H Q=>∃l b xs zs,x=.ref l/\vs=[.ref b]/\H l=Za (.lst xs)/\H b=Za (.lst zs)/\xs.length+zs.length<=sizeLine/\Q .non (upd H l (.lst (xs++zs)))
theorem Jpb:MtM X "list.extend" Jv9:=by
 intro pj s σ H x vs v us Q I rx rv h
 obtain⟨l,b,xs,zs,rfl,rfl,hH,hB,hz,q⟩:=h
 cases rx
 obtain⟨u,rfl,ru⟩:=rv.one
 cases ru
 obtain⟨z,its,n,r,hl,e⟩:=I.lstM hH
 obtain⟨z2,its2,n2,r2,hl2,e2⟩:=I.lstM hB
 have hsz:its.toArray.size+its2.toArray.size<=sizeLine:=by rw[Zz,Zz];omega
 have hlong:¬(!its.toArray.isEmpty&&Zb8 (its.toArray.size+its2.toArray.size))=Ze:=by
  rw[Jll hsz,Bool.and_false]
  exact Zp
 refine ZcO F.slot_list_extend ⟨_,e,rfl⟩ F.entry_list_extend (F.args_list_extend_2 _ _)
  (AutoSeq1.list_extend_list_list_0 l its.toArray n b its2.toArray n2 hlong (by rw[Zz];omega) (by omega)) ⟨e,e2,?_⟩
 refine⟨.non,_,I.lset (its':=its++its2) hH e (by simp) (r.append r2) ?_,rfl,q⟩
 rw[ZE]
 omega
def Jzg:V->List V->Hp->VK->Prop:=λ x vs H Q=>∃l xs i k y,x=.ref l/\vs=[.int i]/\H l=Za (.lst xs)/\ -(2^63)<=i/\i<2^63/\seqIndex? i xs.length=Za k/\xs[k]?=Za y/\Q y (upd H l (.lst (xs.eraseIdx k)))
theorem Jsg:MtM X "list.pop" Jzg:=by
 intro pj s σ H x vs v us Q I rx rv h
 obtain⟨l,xs,i,k,y,rfl,rfl,hH,h1,h2,hk,hy,q⟩:=h
 cases rx
 obtain⟨u,rfl,ru⟩:=rv.one
 obtain⟨t,rfl⟩:=ru
 obtain⟨z,its,n,r,hl,e⟩:=I.lstM hH
 obtain⟨w,hw,rw'⟩:=r.get hy
 refine ZcO F.slot_list_pop ⟨_,e,rfl⟩ F.entry_list_pop (F.args_list_pop_2 _ _)
  (MeetsSeq.list_pop_at l its.toArray n i t k w (fitsIndex_both h1 h2) (by rw[Zz,<-hl];exact hk) (by rw[<- Zee];exact hw) (by rw[Zz];omega)) ⟨e,?_⟩
 refine⟨y,_,I.lset (its':=its.eraseIdx k) hH e ?_ (r.eraseIdx k) ?_,rw',q⟩
 ·show its.toArray.eraseIdxIfInBounds k=(its.eraseIdx k).toArray
  rw[ZcG]
 ·have:=Jgd xs k
  omega
def rCat:R2:=λ x y H Q=>∃l b xs zs,x=.ref l/\y=.ref b/\H l=Za (.lst xs)/\H b=Za (.lst zs)/\xs.length+zs.length<=sizeLine/\∀p,H p=Zb->Q (.ref p) (upd H p (.lst (xs++zs)))
theorem Jy3:OpR X (ZaQ .Add) rCat:=by
 intro pj s σ H x y v u Q I rx ry h
 obtain⟨l,b,xs,zs,rfl,rfl,hH,hB,hz,q⟩:=h
 cases rx
 cases ry
 obtain⟨z,its,n,r,hl,e⟩:=I.lstM hH
 obtain⟨z2,its2,n2,r2,hl2,e2⟩:=I.lstM hB
 refine PySem.P.add_list e e2 ?_ (by rw[Zz,Zz];omega)
 have ea:its.toArray++its2.toArray=(its++its2).toArray:=by simp
 rw[ea]
 exact⟨.ref _,_,I.lnew (t':=s.toks) (r.append r2) (by rw[ZE];omega),rfl,q _ I.fresh⟩
def rRep:R2:=λ x y H Q=>∃l k xs,x=.ref l/\y=.int k/\H l=Za (.lst xs)/\ -(2^63)<=k/\k<2^63/\xs.length*k.toNat<=sizeLine /\
 ∀p,H p=Zb->Q (.ref p) (upd H p (.lst (ZN k.toNat xs).flatten))
theorem Jvr {α:Type}(xs:List α)(k:Nat):(ZN k xs).flatten.length=k*xs.length:=by
 induction k with
 | zero=>simp
 | succ k ih=>rw[ZaZ,Zb2,ZE,ih,Nat.succ_mul,Nat.add_comm]
theorem Jy6:OpR X (ZaQ .Mult) rRep:=by
 intro pj s σ H x y v u Q I rx ry h
 obtain⟨l,k,xs,rfl,rfl,hH,h1,h2,hz,q⟩:=h
 cases rx
 obtain⟨t,rfl⟩:=ry
 obtain⟨z,its,n,r,hl,e⟩:=I.lstM hH
 have hlen:its.toArray.size*k.toNat<=sizeLine:=by rw[Zz,<-hl];exact hz
 have hcap:¬its.toArray.size*k.toNat>(2^63-1)/8:=by
  have:(sizeLine:Nat)<=(2^63-1)/8:=by decide
  omega
 have hfit:¬(!Builtin.List.listFitsIndex k)=Ze:=by
  rw[fitsIndex_both h1 h2]
  exact Zp
 have hlong:¬Zb8 (its.toArray.size*k.toNat)=Ze:=by
  rw[Jll hlen]
  exact Zp
 have hnew:List.foldl (λ x1 x2=>x1++x2) #[] (ZN (if its.toArray.isEmpty=Ze then 0 else k.toNat) its.toArray)=(ZN k.toNat its).flatten.toArray:=by
  have f0:∀m:Nat,List.foldl (λ x1 x2=>x1++x2) #[] (ZN m its.toArray)=(ZN m its).flatten.toArray:=λ m=>by
   have:=Ji1 its m []
   rw[Za9] at this
   exact this
  rw[f0]
  cases its with
  | nil=>simp
  | cons a r'=>rw[if_neg (by simp)]
 refine wpAny_binaryOp_repeat_ref (T:="list") (U:="int") (by decide) ⟨_,e,rfl⟩ (λ s'=>typeIs_int s' k t) noFill_list_mul F.fills_int_mul F.slot_int_rmul repeat_list F.slot_int_index.lookup
  (ZcO F.slot_int_rmul (typeIs_int s k t) F.entry_int_rmul (F.args_int_rmul_2 _ _) (int___rmul___int_list k t l its.toArray n)
   ⟨e,rfl,⟨_,e,rfl⟩,ZcO F.slot_list_mul ⟨_,e,rfl⟩ F.entry_list_mul (F.args_list_mul_2 _ _) (AutoListH.list___mul___list_int_3 l its.toArray n k t hfit hcap hlong) ⟨e,?_⟩⟩)
 rw[hnew]
 exact⟨.ref _,_,I.lnew (t':=s.toks) (r.rep k.toNat) (by rw[Jvr,Nat.mul_comm];exact hz),rfl,q _ I.fresh⟩
end
section
variable {prog:ZA}{w:ZM}{A:ZG}{E:QvT}{s:Zk}
end
section
variable {X:Cx}
end
section
variable {κ:Type}[DecidableEq κ]
def valV (kvs:List (κ×V))(k:κ):Option V:=(kvs.find? λ kv=>decide (kv.1=k)).map (·.2)
def putK (kvs:List (κ×V))(k:κ)(v:V):List (κ×V) :=
 if (kvs.any λ kv=>decide (kv.1=k))=Ze then kvs.map (λ kv=>if kv.1=k then(kv.1,v) else kv) else kvs++[(k,v)]
def Jxr (kvs:List (κ×V))(k:κ):List (κ×V):=kvs.filter λ kv=>decide (kv.1≠k)
theorem Jfk {p:κ×V}{r:List (κ×V)}{k:κ}(e:p.1=k):valV (p::r) k=Za p.2:=by simp[valV,Zbn,e]
theorem Jfj {p:κ×V}{r:List (κ×V)}{k:κ}(e:¬p.1=k):valV (p::r) k=valV r k:=by simp[valV,Zbn,e]
theorem Jfi (k:κ):∀kvs:List (κ×V),(kvs.any λ kv=>decide (kv.1=k))=(valV kvs k).isSome
 | []=>rfl
 | p::r=>by
  rw[Zct]
  by_cases e:p.1=k
  ·simp only[Jfk e,decide_eq_true e,Bool.true_or,Option.isSome_some]
  ·rw[Jfj e,decide_eq_false e,Bool.false_or];exact Jfi k r
theorem Jh3 {kvs:List (κ×V)}{k:κ}(v:V)(h:valV kvs k=Zb):putK kvs k v=kvs++[(k,v)]:=by
 unfold putK
 rw[Jfi,h]
 exact if_neg (by decide)
theorem RelO.isSome_eq {o:Option V}{u:Option Zd}(r:RelO o u):o.isSome=u.isSome:=by
 cases o with
 | none=>cases u with
  | none=>rfl
  | some _=>exact Zf r
 | some _=>cases u with
  | none=>exact Zf r
  | some _=>rfl
theorem RelO.getD {o:Option V}{u:Option Zd}{d:V}{d':Zd}(r:RelO o u)(rd:RelV d d'):RelV (o.getD d) (u.getD d'):=by
 cases o with
 | none=>cases u with
  | none=>exact rd
  | some _=>exact Zf r
 | some _=>cases u with
  | none=>exact Zf r
  | some _=>exact r
theorem KV.val {kvs:List (κ×V)}{vs:List (κ×Zd)}(r:KV kvs vs)(k:κ):RelO (valV kvs k) (Ze7 vs k):=by
 unfold KV at r
 induction r with
 | nil=>exact ZaE
 | @cons p q ps qs h t ih =>
  obtain⟨h1,h2⟩:=h
  by_cases e:p.1=k
  ·have e':q.1=k:=h1.symm.trans e
   have b:Ze7 (q::qs) k=Za q.2:=by simp[Ze7,Zbn,e']
   rw[Jfk e,b];exact h2
  ·have e':¬q.1=k:=λ z=>e (h1.trans z)
   have b:Ze7 (q::qs) k=Ze7 qs k:=by simp[Ze7,Zbn,e']
   rw[Jfj e,b];exact ih
theorem KV.any {kvs:List (κ×V)}{vs:List (κ×Zd)}(r:KV kvs vs)(k:κ):(kvs.any λ kv=>decide (kv.1=k))=vs.any λ kv=>decide (kv.1=k):=by
 unfold KV at r
 induction r with
 | nil=>rfl
 | cons h t ih=>rw[Zct,Zct,ih,h.1]
theorem KV.repl {kvs:List (κ×V)}{vs:List (κ×Zd)}(r:KV kvs vs)(k:κ){y:V}{u:Zd}(ry:RelV y u) :
  KV (kvs.map λ kv=>if kv.1=k then(kv.1,y) else kv) (vs.map λ kv=>if kv.1=k then(kv.1,u) else kv):=by
 unfold KV at r ⊢
 induction r with
 | nil=>exact .nil
 | @cons p q ps qs h t ih =>
  rw[Zs,Zs]
  refine .cons ?_ ih
  obtain⟨h1,h2⟩:=h
  by_cases e:p.1=k
  ·rw[if_pos e,if_pos (h1.symm.trans e)];exact⟨h1,ry⟩
  ·rw[if_neg e,if_neg (λ z=>e (h1.trans z))];exact⟨h1,h2⟩
theorem KV.put {kvs:List (κ×V)}{vs:List (κ×Zd)}(r:KV kvs vs)(k:κ){y:V}{u:Zd}(ry:RelV y u):KV (putK kvs k y) (stored vs k u):=by
 unfold putK stored
 rw[r.any k]
 by_cases e:(vs.any λ kv=>decide (kv.1=k))=Ze
 ·rw[if_pos e,if_pos e];exact r.repl k ry
 ·rw[if_neg e,if_neg e];exact Paired.snoc r ⟨rfl,ry⟩
theorem KV.drop {kvs:List (κ×V)}{vs:List (κ×Zd)}(r:KV kvs vs)(k:κ):KV (Jxr kvs k) (without vs k):=by
 unfold KV at r ⊢
 unfold Jxr without
 induction r with
 | nil=>exact .nil
 | @cons p q ps qs h t ih =>
  obtain⟨h1,h2⟩:=h
  rw[ZcP,ZcP]
  by_cases e:p.1=k
  ·have a:¬decide (p.1≠k)=Ze:=by simp[e]
   have b:¬decide (q.1≠k)=Ze:=by simp[h1.symm.trans e]
   rw[if_neg a,if_neg b];exact ih
  ·have e':¬q.1=k:=λ z=>e (h1.trans z)
   have a:decide (p.1≠k)=Ze:=by simp[e]
   have b:decide (q.1≠k)=Ze:=by simp[e']
   rw[if_pos a,if_pos b];exact .cons ⟨h1,h2⟩ ih
theorem KV.keys {kvs:List (κ×V)}{vs:List (κ×Zd)}(r:KV kvs vs):kvs.map (·.1)=vs.map (·.1):=by
 unfold KV at r
 induction r with
 | nil=>rfl
 | cons h t ih=>rw[Zs,Zs,ih,h.1]
theorem KV.length {kvs:List (κ×V)}{vs:List (κ×Zd)}(r:KV kvs vs):kvs.length=vs.length:=Zes r
end
theorem Jvo {P:ZA}{w:ZM}{k:Key}{u:Zd}(r:RelV (kV k) u):(QQ P w).is k u=Ze:=by
 cases k with
 | inl i=>obtain⟨t,e⟩:=(show ∃t,u=Zdo i t from r);subst e;exact Jke P w i t
 | inr x=>obtain⟨t,e⟩:=(show ∃t,u=Zep x t from r);subst e;exact Jkf P w x t
abbrev KT (H:Hp):List (List Key×V)->List (List Key×Zi×Zd)->Prop:=Paired λ p q=>p.1=q.1/\H q.2.1=Za (.tup (p.1.map kV))/\RelV p.2 q.2.2
theorem KT.val {H:Hp}{kvs:List (List Key×V)}{xs:List (List Key×Zi×Zd)}(r:KT H kvs xs)(k:List Key):RelO (valV kvs k) ((atKey xs k).map (·.2)):=by
 induction r with
 | nil=>exact ZaE
 | @cons p q ps qs h t ih =>
  obtain⟨h1,_,h2⟩:=h
  by_cases e:p.1=k
  ·have e':q.1=k:=h1.symm.trans e
   have b:atKey (q::qs) k=Za q.2:=by simp[atKey,Zbn,e']
   rw[Jfk e,b];exact h2
  ·have e':¬q.1=k:=λ z=>e (h1.trans z)
   have b:atKey (q::qs) k=atKey qs k:=by simp[atKey,Zbn,e']
   rw[Jfj e,b];exact ih
theorem KT.repl {H:Hp}{kvs:List (List Key×V)}{xs:List (List Key×Zi×Zd)}(r:KT H kvs xs)(k:List Key){y:V}{u:Zd}(ry:RelV y u) :
  KT H (kvs.map λ kv=>if kv.1=k then(kv.1,y) else kv) (xs.map (putAt k u)):=by
 induction r with
 | nil=>exact .nil
 | @cons p q ps qs h t ih =>
  rw[Zs,Zs]
  refine .cons ?_ ih
  obtain⟨h1,h2,h3⟩:=h
  unfold putAt
  by_cases e:p.1=k
  ·rw[if_pos e,if_pos (h1.symm.trans e)];exact⟨h1,h2,ry⟩
  ·rw[if_neg e,if_neg (λ z=>e (h1.trans z))];exact⟨h1,h2,h3⟩
theorem KT.put {H:Hp}{kvs:List (List Key×V)}{xs:List (List Key×Zi×Zd)}(r:KT H kvs xs)(k:List Key){b:Zi}{y:V}{u:Zd}(hb:H b=Za (.tup (k.map kV)))(ry:RelV y u) :
  KT H (putK kvs k y) (storedH xs k b u):=by
 have e:(kvs.any λ kv=>decide (kv.1=k))=(atKey xs k).isSome:=by
  rw[Jfi,(r.val k).isSome_eq,Option.isSome_map]
 unfold putK storedH
 rw[e]
 by_cases q:(atKey xs k).isSome=Ze
 ·rw[if_pos q,if_pos q];exact r.repl k ry
 ·rw[if_neg q,if_neg q];exact Paired.snoc r ⟨rfl,hb,ry⟩
theorem KT.keeps {H H':Hp}{kvs:List (List Key×V)}{xs:List (List Key×Zi×Zd)}(r:KT H kvs xs)(ht:∀b ys,H b=Za (.tup ys)->H' b=Za (.tup ys)):KT H' kvs xs :=
 Paired.mapP r λ _ _ z=>⟨z.1,ht _ _ z.2.1,z.2.2⟩
section
variable {P:ZA}{w:ZM}{H:Hp}{h:ZT}{a:Zi}
theorem J1k {u:HO}(ok:HOk P w H h)(e:Rd H a u):JE P w H h a u:=e.ok ok
theorem J0p {kvs:List (Key×V)}(ok:HOk P w H h)(e:Rd H a (.dK kvs)):kvs.length<=sizeLine/\(a==Zcy)=Zj/\∃vs,KV kvs vs/\h.DictOf (QQ P w) a vs :=
 show JE P w H h a (.dK kvs) from J1k ok e
theorem Jut {kvs:List (Key×V)}(ok:HOk P w H h)(e:H a=Za (.dK kvs)):kvs.length<=sizeLine/\(a==Zcy)=Zj/\∃vs,KV kvs vs/\h.DictOf (QQ P w) a vs:=J0p ok (.inl e)
end
def DGet (H:Hp)(a:Zi)(y:V)(r:Option V):Prop :=
 (∃kvs k,Rd H a (.dK kvs)/\y=kV k/\r=valV kvs k)∨∃kvs k b,Rd H a (.dT kvs)/\y=.ref b/\H b=Za (.tup (k.map kV))/\r=valV kvs k
def DPut (H:Hp)(a:Zi)(y v:V)(H':Hp):Prop :=
 (∃kvs k,H a=Za (.dK kvs)/\y=kV k/\kvs.length<sizeLine/\H'=upd H a (.dK (putK kvs k v))) ∨
 ∃kvs k b,H a=Za (.dT kvs)/\y=.ref b/\H b=Za (.tup (k.map kV))/\kvs.length<sizeLine/\H'=upd H a (.dT (putK kvs k v))
theorem DGet.k {H:Hp}{a:Zi}{kvs:List (Key×V)}{k:Key}(e:H a=Za (.dK kvs)):DGet H a (kV k) (valV kvs k):=.inl ⟨kvs,k,.inl e,rfl,rfl⟩
theorem DGet.t {H:Hp}{a b:Zi}{kvs:List (List Key×V)}{k:List Key}(e:H a=Za (.dT kvs))(eb:H b=Za (.tup (k.map kV))):DGet H a (.ref b) (valV kvs k):=.inr ⟨kvs,k,b,.inl e,rfl,eb,rfl⟩
theorem DPut.k {H:Hp}{a:Zi}{kvs:List (Key×V)}{k:Key}{v:V}(e:H a=Za (.dK kvs))(hl:kvs.length<sizeLine):DPut H a (kV k) v (upd H a (.dK (putK kvs k v))):=.inl ⟨kvs,k,e,rfl,hl,rfl⟩
theorem DPut.t {H:Hp}{a b:Zi}{kvs:List (List Key×V)}{k:List Key}{v:V}(e:H a=Za (.dT kvs))(eb:H b=Za (.tup (k.map kV)))(hl:kvs.length<sizeLine) :
  DPut H a (.ref b) v (upd H a (.dT (putK kvs k v))):=.inr ⟨kvs,k,b,e,rfl,eb,hl,rfl⟩
section
variable {X:Cx}{pj:PnT}{σ:St}{H:Hp}{s:Zk}{a:Zi}{y v:V}{u r:Zd}{o:Option V}{A:ZG}{E:QvT}
theorem Inv.big (I:Inv X pj σ H s):Zcy<s.heap.objs.size:=by
 have h:Zm<s.heap.objs.size:=(I.mod.glob.keeps I.bk).lt
 exact Nat.lt_trans (by decide) h
theorem Jur {h':ZT}{t':Nat}{ob:HO}(I:Inv X pj σ H s)(mu:Mut (H a))(hs:Zc7 a s.heap h')(he:∃q,h'.get? a=Za q)(new:JE X.prog X.w (upd H a ob) h' a ob) :
  Inv X pj σ (upd H a ob) { s with heap:=h',toks:=t' } :=
 I.write (x:=a) (e:=a) mu (.inl rfl) (λ b q hb z=>(hs.2 b hb).trans z) he new
theorem Jxq {P:ZA}{w:ZM}{H':Hp}{h':ZT}{kvs:List (Key×V)}{vs:List (Key×Zd)}(z:kvs.length<=sizeLine)(hd:(a==Zcy)=Zj)(rel:KV kvs vs)(dd:h'.DictOf (QQ P w) a vs) :
  JE P w H' h' a (.dK kvs):=⟨z,hd,vs,rel,dd⟩
end
section
variable {X:Cx}{pj:PnT}{σ:St}{H:Hp}{s:Zk}{a:Zi}{kvs:List (Key×V)}{k:Key}{u:Zd}{A:ZG}{E:QvT}
end
section
variable {X:Cx}{o i e value:Expr}{pos pos' tpos:Pos}{td ty tv:TE}
end
theorem Jrc {P:ZA}{w:ZM}{H:Hp}(h:ZT)(hb:Zcy<h.objs.size):JE P w H (h.push { cls:=.type "dict",data:=.dict #[] }) h.objs.size (.dK []) :=
 ⟨Zal _,beq_eq_false_iff_ne.mpr (ZW (ZD hb)),[],.nil,Heap.DictOf.new h⟩
section
variable {X:Cx}{pos:Pos}
end
section
variable {X:Cx}{pj:PnT}{σ:St}{H:Hp}{s:Zk}{a:Zi}{y d:V}{u r:Zd}{o:Option V}{A:ZG}{E:QvT}
end
section
variable {X:Cx}{o e f:Expr}{apos cpos:Pos}{td ty tx:TE}
end
section
variable {X:Cx}{pj:PnT}{σ:St}{H:Hp}{s:Zk}{a:Zi}{kvs:List (Key×V)}{A:ZG}{E:QvT}
end
end L2
namespace Att
open PySem PySem.W PySem.Calls PyProof.Rows
theorem Jgb {P:Params}{h:ZT}:∀(ns:List Int)(vs:List Zd),WellAll P h vs (ns.map WData.int)->ZcU vs ns:=by
 intro ns
 induction ns with
 | nil =>
  intro vs w
  rw[ZaB] at w
  cases w
  exact .nil
 | cons n ns ih =>
  intro vs w
  rw[Zs] at w
  cases w with
  | cons a b =>
   cases a
   exact .cons _ _ (ih _ b)
theorem Jpq {l:OpenLaw}{n:Nat}(hn:l.most=Za n){P:Params}{h:ZT}{args:List WData}{vals:List Zd}
  (hpre:l.row.toRowW.claim.pre args=Ze)(hwl:WellAll P h vals args) :
  ∃a vs ns,vals=[Za4 a]/\args=[WData.list (ns.map WData.int)]/\h.get? a=Za { cls:=.type "list",data:=.seq vs.toArray }/\ZcU vs ns/\ns.length<=n:=by
 have hsh:WShape.hasAll [] args [.list .int]=Ze:=(pre_splitW hpre).1
 have hc:l.pre.holds [] { args:=args }=Ze:=(pre_splitW hpre).2
 obtain⟨d,r,rfl,h1,h2⟩:=hasAllW_cons hsh
 obtain rfl:=hasAllW_nil h2
 obtain⟨xs,rfl,h3⟩:=hasW_list h1
 obtain⟨ns,rfl⟩:=items_int h3
 have hlen:ns.length<=n:=by
  unfold OpenLaw.pre at hc
  have h4:(WTm.not (.lt (.lit (.int (n:Int))) (.len (.arg 0)))).holds [] { args:=[.list (ns.map .int)] }=Ze:=by
   have h4:=(holds_andW hc).1
   rw[hn] at h4
   exact h4
  have h5:=condW_of h4 (w_not (w_lt w_lit (w_len_list (w_arg rfl))))
  rw[Zo] at h5
  refine ZdJ λ q=>?_
  have q':(n:Int)<((ns.length:Nat):Int):=by omega
  first
   | (rw[decide_eq_true q'] at h5;exact absurd h5 (by decide))
   | (simp at h5;omega)
 cases hwl with
 | cons w1 w2 =>
  cases w2
  cases w1 with
  | list ho hall=>exact⟨_,_,ns,rfl,rfl,ho,Jgb ns _ hall,hlen⟩
theorem Jph (l:OpenLaw)(args:List WData):l.row.toRowW.claim.post args (.bool Ze) args=Ze :=
 postW_of (r:=l.row.toRowW) (X:=(Ze==Ze))
  (show WShape.has [] (.bool Ze) .bool=Ze by first|rfl|decide|simp[WShape.has,WShape.arms,WShape.armsAll])
  (show(WTm.eq .res (.lit (.bool Ze))).value [] { args:=args,res:=Za (.bool Ze),after:=args }=Za (.bool (Ze==Ze)) from w_eq_bool (w_res rfl) w_lit) rfl
theorem attach_call {l:OpenLaw}{n:Nat}{q:ZA}{loose:List Str}{XP:(Str->Option Zd)->ZT->Prop}{YP:ZM->ZT->Prop}{d:DefRec}
  (hn:l.most=Za n)(hdf:d.params.defaults=[])
  (call:∀(w:ZM)(s₀ s₁:Zk)(mg mb:Str->Option Zd)(fa:Zi)(o:Obj)(pm cd doc:Zd)(a:Zi)(vs:List Zd)(ns:List Int),
   Ground q loose [] XP w s₀ mg mb s₁.heap->YP w s₁.heap ->
   s₁.heap.get? fa=Za o->o.data=.func (docDef d.name d.params d.body d.scope pm cd doc)->s₁.heap.CodeRec cd d.name->mg d.name=Za (.ref fa) ->
   s₁.heap.get? a=Za { cls:=.type "list",data:=.seq vs.toArray }->ZcU vs ns->ns.length<=n->s₁.gens=#[] ->
   ZbW (Z1 l.prog w) Zer (.call (.ref fa) ⟨[.ref a],[]⟩) (λ r s'=>r=.ok (.ret (.bool Ze))/\OldK s₁.heap s'.heap/\s'.os=s₁.os/\Zdh s'.gens) s₁) :
  WalkO q loose XP YP l.row.toRowW d [] (λ f vs=>PySem.call f vs):=by
 intro w s₀ s₁ mg mb G Y fa o pm cd doc dV kV ho hd hcd hD hmg hg args vals as hpre hlay hrd hwl hlo
 obtain rfl:dV=.none:=Dflts.none hD hdf
 obtain rfl:kV=.none:=Dflts.noKw hD
 obtain⟨a,vs,ns,rfl,rfl,hobj,hints,hlen⟩:=Jpq hn hpre hwl
 refine enter_call (ZbN (call w s₀ s₁ mg mb fa o pm cd doc a vs ns G Y ho (fd_plain hd) hcd hmg hobj hints hlen hg) λ r s' hq=>?_)
 obtain⟨rfl,h2,h3,h4⟩:=hq
 exact⟨.inl ⟨.bool Ze,.bool Ze,[],rfl,λ _=>rfl,.bool Ze,Jph l _,λ _=>⟨List.Pairwise.nil,λ _ hm=>(nomatch hm)⟩⟩,h2,h3,h4⟩
section
variable {prog:ZA}{w:ZM}{A:ZG}{E:QvT}{s:Zk}{K:Frag}
end
end Att
namespace L2
open PySem PySem.Spec PyProof.Rows
theorem Xp:∀{vs:List Zd}{ns:List Int},ZcU vs ns->Vals (ns.map V.int) vs
 | _,_,.nil=>.nil
 | _,_,.cons n t h=>.cons ⟨t,rfl⟩ (Xp h)
noncomputable def Vu (s:Zbv)(j:Nat):Zbv:=match s with
 | .ClassDef _ _ _ body _ _ _ _ _ _ _=>body.getD j (.Pass ⟨0,0,0,0⟩)
 | _=>.Pass ⟨0,0,0,0⟩
def Qf (s:Zbv):ZcL:=match s with
 | .FunctionDef _ a _ _ _ _ _ _ _ _=>a
 | _=>{ posonlyargs:=[],args:=[],vararg:=Zb,kwonlyargs:=[],kw_defaults:=[],kwarg:=Zb,defaults:=[] }
def JG (s:Zbv):List Zbv:=match s with
 | .FunctionDef _ _ b _ _ _ _ _ _ _=>b
 | _=>[]
def Jx (s:Zbv):Zba:=match s with
 | .FunctionDef _ _ _ _ _ _ sc _ _ _=>sc
 | _=>{ kind:=.function,names:=[],isGenerator:=Zj,isCoroutine:=Zj }
abbrev CX0:CXT:=λ _ _ _ _ _ _=>False
structure Fun (K:W.Frag)(x qual:Str)(st:Zbv)(f:Zi)(fd:Zam):Prop where
 ex:∃(oc:Zd)(od:Option Zi)(kV doc pm:Zd)(an:Option Zi)(cdv ct:Zd)(osl:Array (Option Zd)),
  fd=W.fnOf x qual (Qf st) (JG st) (Jx st) .none kV doc pm an cdv ct/\K.lookup f=Za ⟨oc,od,.func fd,osl⟩/\W.codeIn K cdv qual=Ze
 kp:W.keepIn K (.ref f)=Ze
section
variable {P:ZA}{w:ZM}{K:W.Frag}{mg:Str->Option Zd}{base:ZT}
theorem Fun.ok {x qual:Str}{st:Zbv}{f:Zi}{fd:Zam}{N ps:List Str}{k:Nat}{sp:Sp}(F:Fun K x qual st f fd)(S:FnScope N ps (Jx st))(len:∀vs H Q E,sp vs H Q E->vs.length=ps.length)
  (hbody:∀(cdv:Zd)(A:ZG)(outer:List Env)(s:Zk)(H:Hp)(vs:List V)(Q:VK)(E:XK),Room k (A.deeper (ZcK qual (Jx st) s.heap.objs.size f cdv))->sp vs H Q E ->
   ∃t,PSs (cxOf CX0 P w K mg base N qual (Jx st) f cdv A outer s H E).nox (JG st) t/\t { nx:=λ _ H'=>Q .non H',rt:=Q } (start N vs) H):FnOk P w K mg base CX0 (k+1) f fd ps sp:=by
 obtain⟨oc,od,kV,doc,pm,an,cdv,ct,osl,rfl,lk,hcd⟩:=F.ex
 refine Jxu lk hcd S len λ A outer s H vs Q E hr hsp=>?_
 obtain⟨t,h,q⟩:=hbody cdv A outer s H vs Q E hr hsp
 exact⟨t,h.nox,q⟩
theorem Fun.binds {x qual:Str}{st:Zbv}{f:Zi}{fd:Zam}{ps:List Str}(F:Fun K x qual st f fd)
  (h:∀(kV doc pm:Zd)(an:Option Zi)(cdv ct:Zd)(us:List Zd),us.length=ps.length->ZdH (W.fnOf x qual (Qf st) (JG st) (Jx st) .none kV doc pm an cdv ct) ⟨us,[]⟩=pure (ps.zip us)):JL K fd ps []:=by
 obtain⟨oc,od,kV,doc,pm,an,cdv,ct,osl,rfl,lk,hcd⟩:=F.ex
 exact .all (h kV doc pm an cdv ct)
end
section
variable {X:Cx}
end
def Same (H H':Hp):Prop:=∀b o,H b=Za o->H' b=Za o
theorem Same.refl (H:Hp):Same H H:=λ _ _ h=>h
theorem Same.trans {H H1 H2:Hp}(a:Same H H1)(b:Same H1 H2):Same H H2:=λ c o h=>b c o (a c o h)
theorem Same.free {H H':Hp}(e:Same H H'){l:Zi}(h:H' l=Option.none):H l=Option.none:=by
 cases q:H l with
 | none=>rfl
 | some o =>
  rw[e l o q] at h
  cases h
theorem Same.seq {K:W.Frag}{H H':Hp}{a:Zi}{xs:List V}(e:Same H H')(h:SqL K H a xs):SqL K H' a xs:=by
 rcases h with(h|⟨o,h⟩)|h
 ·exact .inl (.inl (e _ _ h))
 ·exact .inl (.inr ⟨o,e _ _ h⟩)
 ·exact .inr h
end L2
set_option maxHeartbeats 4000000
namespace L3
open PySem PySem.Spec PyProof.Rows L2
inductive IV where
 | non|bl (b:Bool)|int (i:Int)|str (x:Str)|tup (xs:List IV)|rol (xs:List IV)|ref (i:Nat)
inductive IX where
 | lst (xs:List IV)
 | ins (c:Str) (fs:List (Str×IV))
 | dct (kvs:List (Key×IV))
 | exc (c:Str) (fs:List (Str×IV))
 | tab (q:Str)
 | hld (c:Str) (fs:List (Str×IV))
abbrev IH:=List IX
abbrev ISt:=List (Option IV)
inductive Res (α:Type) where
 | ok (a:α) (h:IH)|exc (n:Nat) (h:IH)|stuck
noncomputable def Res.bind {α β:Type}:Res α->(α->IH->Res β)->Res β
 | .ok a h,f=>f a h
 | .exc n h,_=>.exc n h
 | .stuck,_=>.stuck
inductive SRes where
 | next (σ:ISt) (h:IH)|ret (v:IV) (h:IH)|brk (σ:ISt) (h:IH)|cont (σ:ISt) (h:IH)|exc (n:Nat) (σ:ISt) (h:IH)|stuck
def SqR (K:W.Frag)(H:Hp)(a:Zi)(xs:List V):Prop :=
 (∃o,H a=Za (.frz o (.lst xs))) ∨
  ∃(o:Obj) (its:Array Zd) (n:Nat),K.lookup a=Za o/\o.cls=.type "list"/\o.dict=Zb/\o.data=.seq its n/\its.size<=sizeLine/\Vals xs its.toList
theorem SqR.sq {K:W.Frag}{H:Hp}{a:Zi}{xs:List V}(h:SqR K H a xs):SqL K H a xs:=by
 rcases h with⟨o,h⟩|h
 ·exact .inl (.inr ⟨o,h⟩)
 ·exact .inr h
mutual
def RV (K:W.Frag)(ι:List Zi)(H:Hp):IV->V->Prop
 | .non,v=>v=.non
 | .bl b,v=>v=.bl b
 | .int i,v=>v=.int i
 | .str x,v=>v=.str x
 | .tup xs,v=>∃a vs,v=.ref a/\SqT K H a vs/\RVs K ι H xs vs
 | .rol xs,v=>∃a vs,v=.ref a/\SqR K H a vs/\RVs K ι H xs vs
 | .ref i,v=>∃a,v=.ref a/\ι[i]?=Za a
def RVs (K:W.Frag)(ι:List Zi)(H:Hp):List IV->List V->Prop
 | [],vs=>vs=[]
 | x::xs,vs=>∃v r,vs=v::r/\RV K ι H x v/\RVs K ι H xs r
end
structure Ext (H H':Hp):Prop where
 tups:∀b xs,H b=Za (.tup xs)->H' b=Za (.tup xs)
 frzs:∀b o u,H b=Za (.frz o u)->H' b=Za (.frz o u)
structure Nxt (ι:List Zi)(H:Hp)(ι':List Zi)(H':Hp):Prop where
 pre:∃m,ι'=ι++m
 ext:Ext H H'
theorem Nxt.refl {ι:List Zi}{H:Hp}:Nxt ι H ι H:=⟨⟨[],by simp⟩,⟨λ _ _ h=>h,λ _ _ _ h=>h⟩⟩
theorem Nxt.trans {ι ι1 ι2:List Zi}{H H1 H2:Hp}(a:Nxt ι H ι1 H1)(b:Nxt ι1 H1 ι2 H2):Nxt ι H ι2 H2:=by
 obtain⟨⟨m,e⟩,x⟩:=a
 obtain⟨⟨m',e'⟩,y⟩:=b
 exact⟨⟨m++m',by rw[e',e,ZF]⟩,⟨λ b xs h=>y.tups b xs (x.tups b xs h),λ b o u h=>y.frzs b o u (x.frzs b o u h)⟩⟩
theorem Nxt.at {ι ι':List Zi}{H H':Hp}(n:Nxt ι H ι' H'){i:Nat}{a:Zi}(h:ι[i]?=Za a):ι'[i]?=Za a:=by
 obtain⟨⟨m,e⟩,_⟩:=n
 subst e
 rw[Z7 (Zn.mp h).1]
 exact h
theorem Ext.rd {H H':Hp}(x:Ext H H'){a:Zi}{xs:List V}(h:Rd H a (.tup xs)):Rd H' a (.tup xs):=by
 rcases h with h|⟨o,h⟩
 ·exact .inl (x.tups _ _ h)
 ·exact .inr ⟨o,x.frzs _ _ _ h⟩
theorem Ext.sqT {K:W.Frag}{H H':Hp}(x:Ext H H'){a:Zi}{xs:List V}(h:SqT K H a xs):SqT K H' a xs:=by
 rcases h with h|h
 ·exact .inl (x.rd h)
 ·exact .inr h
theorem Ext.sqR {K:W.Frag}{H H':Hp}(x:Ext H H'){a:Zi}{xs:List V}(h:SqR K H a xs):SqR K H' a xs:=by
 rcases h with⟨o,h⟩|h
 ·exact .inl ⟨o,x.frzs _ _ _ h⟩
 ·exact .inr h
mutual
theorem RV.mono {K:W.Frag}{ι ι':List Zi}{H H':Hp}(n:Nxt ι H ι' H'):∀(x:IV)(v:V),RV K ι H x v->RV K ι' H' x v
 | .non,_,h=>h
 | .bl _,_,h=>h
 | .int _,_,h=>h
 | .str _,_,h=>h
 | .tup xs,_,h=>by
  obtain⟨a,vs,e,q,r⟩:=h
  exact⟨a,vs,e,n.ext.sqT q,RVs.mono n xs vs r⟩
 | .rol xs,_,h=>by
  obtain⟨a,vs,e,q,r⟩:=h
  exact⟨a,vs,e,n.ext.sqR q,RVs.mono n xs vs r⟩
 | .ref i,_,h=>by
  obtain⟨a,e,q⟩:=h
  exact⟨a,e,n.at q⟩
theorem RVs.mono {K:W.Frag}{ι ι':List Zi}{H H':Hp}(n:Nxt ι H ι' H'):∀(xs:List IV)(vs:List V),RVs K ι H xs vs->RVs K ι' H' xs vs
 | [],_,h=>h
 | x::xs,_,h=>by
  obtain⟨v,r,e,q,t⟩:=h
  exact⟨v,r,e,RV.mono n x v q,RVs.mono n xs r t⟩
end
theorem RVs.length {K:W.Frag}{ι:List Zi}{H:Hp}:∀{xs:List IV}{vs:List V},RVs K ι H xs vs->vs.length=xs.length
 | [],_,h=>by
  have e:_=[]:=h
  subst e
  rfl
 | x::xs,_,h=>by
  obtain⟨v,r,e,_,t⟩:=h
  subst e
  simp[RVs.length t]
theorem RVs.get {K:W.Frag}{ι:List Zi}{H:Hp}:∀{xs:List IV}{vs:List V}{i:Nat}{x:IV},RVs K ι H xs vs->xs[i]?=Za x->∃v,vs[i]?=Za v/\RV K ι H x v
 | [],_,_,_,_,e=>by simp at e
 | x::xs,_,0,y,h,e=>by
  obtain⟨v,r,e1,q,t⟩:=h
  subst e1
  simp at e
  subst e
  exact⟨v,rfl,q⟩
 | x::xs,_,i+1,y,h,e=>by
  obtain⟨v,r,e1,q,t⟩:=h
  subst e1
  obtain⟨u,h1,h2⟩:=RVs.get (i:=i) (x:=y) t (by simpa using e)
  exact⟨u,by simpa using h1,h2⟩
theorem RVs.get' {K:W.Frag}{ι:List Zi}{H:Hp}{xs:List IV}{vs:List V}{i:Nat}{v:V}(h:RVs K ι H xs vs)(e:vs[i]?=Za v):∃x,xs[i]?=Za x/\RV K ι H x v:=by
 have hl:=h.length
 have hi:i<vs.length:=(Zn.mp e).1
 have hx:xs[i]?=Za xs[i]:=Zc (by omega)
 obtain⟨u,h1,h2⟩:=h.get hx
 rw[e] at h1
 cases h1
 exact⟨_,hx,h2⟩
theorem RVs.append {K:W.Frag}{ι:List Zi}{H:Hp}:∀{xs ys:List IV}{vs us:List V},RVs K ι H xs vs->RVs K ι H ys us->RVs K ι H (xs++ys) (vs++us)
 | [],_,_,_,h,g=>by
  have e:_=[]:=h
  subst e
  exact g
 | x::xs,_,_,_,h,g=>by
  obtain⟨v,r,e,q,t⟩:=h
  subst e
  exact⟨v,_,rfl,q,RVs.append t g⟩
theorem RVs.take {K:W.Frag}{ι:List Zi}{H:Hp}:∀{xs:List IV}{vs:List V}(n:Nat),RVs K ι H xs vs->RVs K ι H (xs.take n) (vs.take n)
 | _,_,0,_=>by simp;exact rfl
 | [],_,n+1,h=>by
  have e:_=[]:=h
  subst e
  exact rfl
 | x::xs,_,n+1,h=>by
  obtain⟨v,r,e,q,t⟩:=h
  subst e
  exact⟨v,r.take n,rfl,q,RVs.take n t⟩
theorem RVs.drop {K:W.Frag}{ι:List Zi}{H:Hp}:∀{xs:List IV}{vs:List V}(n:Nat),RVs K ι H xs vs->RVs K ι H (xs.drop n) (vs.drop n)
 | _,_,0,h=>h
 | [],_,n+1,h=>by
  have e:_=[]:=h
  subst e
  exact rfl
 | x::xs,_,n+1,h=>by
  obtain⟨v,r,e,q,t⟩:=h
  subst e
  exact RVs.drop n t
theorem RVs.set {K:W.Frag}{ι:List Zi}{H:Hp}{x:IV}{v:V}(q:RV K ι H x v):∀{xs:List IV}{vs:List V}(i:Nat),RVs K ι H xs vs->RVs K ι H (xs.set i x) (vs.set i v)
 | [],_,_,h=>by
  have e:_=[]:=h
  subst e
  exact rfl
 | y::xs,_,0,h=>by
  obtain⟨u,r,e,_,t⟩:=h
  subst e
  exact⟨v,r,rfl,q,t⟩
 | y::xs,_,i+1,h=>by
  obtain⟨u,r,e,p,t⟩:=h
  subst e
  exact⟨u,r.set i v,rfl,p,RVs.set q i t⟩
theorem RVs.one {K:W.Frag}{ι:List Zi}{H:Hp}{x:IV}{v:V}(q:RV K ι H x v):RVs K ι H [x] [v]:=⟨v,[],rfl,q,rfl⟩
theorem RVs.eraseIdx {K:W.Frag}{ι:List Zi}{H:Hp}:∀{xs:List IV}{vs:List V}(i:Nat),RVs K ι H xs vs->RVs K ι H (xs.eraseIdx i) (vs.eraseIdx i)
 | [],_,_,h=>by
  have e:_=[]:=h
  subst e
  exact rfl
 | x::xs,_,0,h=>by
  obtain⟨v,r,e,q,t⟩:=h
  subst e
  exact t
 | x::xs,_,i+1,h=>by
  obtain⟨v,r,e,q,t⟩:=h
  subst e
  exact⟨v,r.eraseIdx i,rfl,q,RVs.eraseIdx i t⟩
theorem RVs.ints {K:W.Frag}{ι:List Zi}{H:Hp}:∀(ns:List Int),RVs K ι H (ns.map IV.int) (ns.map V.int)
 | []=>rfl
 | _::ns=>⟨_,_,rfl,rfl,RVs.ints ns⟩
def RPs {κ:Type}(K:W.Frag)(ι:List Zi)(H:Hp):List (κ×IV)->List (κ×V)->Prop
 | [],vs=>vs=[]
 | x::xs,vs=>∃v r,vs=(x.1,v)::r/\RV K ι H x.2 v/\RPs K ι H xs r
theorem RPs.mono {κ:Type}{K:W.Frag}{ι ι':List Zi}{H H':Hp}(n:Nxt ι H ι' H'):∀(xs:List (κ×IV))(vs:List (κ×V)),RPs K ι H xs vs->RPs K ι' H' xs vs
 | [],_,h=>h
 | x::xs,_,h=>by
  obtain⟨v,r,e,q,t⟩:=h
  exact⟨v,r,e,RV.mono n _ v q,RPs.mono n xs r t⟩
theorem RPs.length {κ:Type}{K:W.Frag}{ι:List Zi}{H:Hp}:∀{xs:List (κ×IV)}{vs:List (κ×V)},RPs K ι H xs vs->vs.length=xs.length
 | [],_,h=>by
  have e:_=[]:=h
  subst e
  rfl
 | x::xs,_,h=>by
  obtain⟨v,r,e,_,t⟩:=h
  subst e
  simp[RPs.length t]
theorem RPs.lookup {κ:Type}[BEq κ]{K:W.Frag}{ι:List Zi}{H:Hp}{f:κ}:∀{xs:List (κ×IV)}{vs:List (κ×V)},RPs K ι H xs vs ->
  (∀x,xs.lookup f=Za x->∃v,vs.lookup f=Za v/\RV K ι H x v)/\(xs.lookup f=Zb->vs.lookup f=Zb)
 | [],_,h=>by
  have e:_=[]:=h
  subst e
  exact⟨λ x e=>by simp at e,λ _=>rfl⟩
 | (k,x)::xs,_,h=>by
  obtain⟨v,r,e,q,t⟩:=h
  subst e
  have ih:=RPs.lookup (f:=f) t
  simp only[ZU]
  cases hb:f==k with
  | true=>exact⟨λ y e=>by cases e;exact⟨v,rfl,q⟩,λ e=>by cases e⟩
  | false=>exact ih
def QL (H:Hp)(q:Str)(cv:Zd):Prop:=∃c oc vs t,cv=.ref c/\H c=Za (.frz oc (.own 0))/\oc.data=.fields vs/\vs[1]?=Za (.str (q++".<locals>."++"<lambda>") t)
def TabO (K:W.Frag)(H:Hp)(q:Str)(a:Zi):Prop:=(∀cdv,W.codeIn K cdv q=Ze->∃c,cdv=.ref c/\W.codeHdIn K c a=Ze) /\
 ∃ps,H a=Za (.tbl ps)/\TriplesOk ps.toList/\∀pos cv,ZdK pos ps.toList=Za cv->QL H q cv
theorem TabO.mono {K:W.Frag}{H H':Hp}{q:Str}{a:Zi}(fz:∀b o u,H b=Za (.frz o u)->H' b=Za (.frz o u))(k:∀u,H a=Za u->H' a=Za u)(h:TabO K H q a):TabO K H' q a:=by
 obtain⟨h1,ps,e,ht,hc⟩:=h
 refine⟨h1,ps,k _ e,ht,λ pos cv q=>?_⟩
 obtain⟨c,oc,vs,t,e1,e2,r⟩:=hc pos cv q
 exact⟨c,oc,vs,t,e1,fz _ _ _ e2,r⟩
def ExF (a C:Zi)(tv:Zd)(d:Option Zi):HO:=.ext λ h=>∃oe vs,h.get? a=Za oe/\oe.cls=.ref C/\oe.data=.fields vs/\vs[1]?=Za tv/\vs[2]?=Za .none/\oe.dict=d
def XV (ι:List Zi):IV->Zd->Prop
 | .int i,u=>∃t,u=.int i t
 | .ref j,u=>∃b,u=.ref b/\ι[j]?=Za b
 | _,_=>False
def XdOk (ι:List Zi)(H:Hp)(d:Option Zi)(fs:List (Str×IV)):Prop:=(fs=[]/\d=Zb)∨∃f v dx od u,fs=[(f,v)]/\d=Za dx/\H dx=Za (.frz od (.own 0))/\W.lookIn f od=Za (Za u)/\XV ι v u
theorem XdOk.mono {ι:List Zi}{H H':Hp}{d:Option Zi}{fs:List (Str×IV)}(fz:∀b o u,H b=Za (.frz o u)->H' b=Za (.frz o u))(h:XdOk ι H d fs):XdOk ι H' d fs:=by
 rcases h with h|⟨f,i,dx,od,t,e,q,r,z⟩
 ·exact .inl h
 ·exact .inr ⟨f,i,dx,od,t,e,q,fz _ _ _ r,z⟩
theorem XdOk.nxt {ι ι':List Zi}{H H':Hp}{d:Option Zi}{fs:List (Str×IV)}(n:Nxt ι H ι' H')(h:XdOk ι H d fs):XdOk ι' H' d fs:=by
 rcases h with h|⟨f,v,dx,od,t,e,q,r,z,x⟩
 ·exact .inl h
 ·refine .inr ⟨f,v,dx,od,t,e,q,n.ext.frzs _ _ _ r,z,?_⟩
  cases v with
  | ref j =>
   obtain⟨b,e,q⟩:=x
   obtain⟨⟨m,rfl⟩,_⟩:=n
   exact⟨b,e,by rw[Z7 (Zn.mp q).1];exact q⟩
  | _=>exact x
def TvOk (H:Hp)(tv:Zd):Prop:=tv=.none∨∃T oT ts,tv=.ref T/\H T=Za (.frz oT (.own 0))/\oT.data=.fields ts/\ts[3]?=Za .none
theorem TvOk.mono {H H':Hp}{tv:Zd}(fz:∀b o u,H b=Za (.frz o u)->H' b=Za (.frz o u))(h:TvOk H tv):TvOk H' tv:=by
 rcases h with h|⟨T,oT,ts,e,q,r⟩
 ·exact .inl h
 ·exact .inr ⟨T,oT,ts,e,fz _ _ _ q,r⟩
def RO (ce:CeT)(K:W.Frag)(ι:List Zi)(H:Hp)(a:Zi):IX->Prop
 | .lst xs=>∃vs,H a=Za (.lst vs)/\RVs K ι H xs vs
 | .ins c fs=>∃C dx vs,ce c=Za C/\H a=Za (.ins C dx vs)/\RPs K ι H fs vs
 | .dct kvs=>∃vs,H a=Za (.dK vs)/\RPs K ι H kvs vs
 | .exc c fs=>∃C tv d,XdOk ι H d fs/\W.nsIn K Zm c=Za (Za (.ref C))/\H a=Za (ExF a C tv d)/\TvOk H tv
 | .tab q=>TabO K H q a
 | .hld c fs=>∃C oe u vs,XdOk ι H oe.dict fs/\W.nsIn K Zm c=Za (Za (.ref C))/\H a=Za (.frz oe u)/\oe.cls=.ref C/\oe.data=.fields vs/\vs[2]?=Za .none
theorem RO.some {ce:CeT}{K:W.Frag}{ι:List Zi}{H:Hp}{a:Zi}{o:IX}(h:RO ce K ι H a o):∃u,H a=Za u:=by
 cases o with
 | lst xs=>obtain⟨vs,e,_⟩:=h;exact⟨_,e⟩
 | ins c fs=>obtain⟨_,_,vs,_,e,_⟩:=h;exact⟨_,e⟩
 | dct kvs=>obtain⟨vs,e,_⟩:=h;exact⟨_,e⟩
 | exc c fs=>obtain⟨C,tv,d,_,_,e,_⟩:=h;exact⟨_,e⟩
 | tab q=>obtain⟨_,ps,e,_⟩:=h;exact⟨_,e⟩
 | hld c fs=>obtain⟨_,_,_,_,_,_,e,_⟩:=h;exact⟨_,e⟩
theorem RO.mono {ce:CeT}{K:W.Frag}{ι ι':List Zi}{H H':Hp}{a:Zi}{o:IX}(n:Nxt ι H ι' H')(k:∀u,H a=Za u->H' a=Za u)(h:RO ce K ι H a o):RO ce K ι' H' a o:=by
 cases o with
 | lst xs=>obtain⟨vs,e,r⟩:=h;exact⟨vs,k _ e,RVs.mono n _ _ r⟩
 | ins c fs=>obtain⟨C,dx,vs,c1,e,r⟩:=h;exact⟨C,dx,vs,c1,k _ e,RPs.mono n _ _ r⟩
 | dct kvs=>obtain⟨vs,e,r⟩:=h;exact⟨vs,k _ e,RPs.mono n _ _ r⟩
 | exc c fs=>obtain⟨C,tv,d,e0,c1,e,r⟩:=h;exact⟨C,tv,d,e0.nxt n,c1,k _ e,r.mono n.ext.frzs⟩
 | tab q=>exact TabO.mono n.ext.frzs k h
 | hld c fs=>obtain⟨C,oe,u,vs,e0,c1,e,r⟩:=h;exact⟨C,oe,u,vs,e0.nxt n,c1,k _ e,r⟩
structure Rel (ce:CeT)(K:W.Frag)(ι:List Zi)(h:IH)(H:Hp):Prop where
 len:ι.length=h.length
 nd:ι.Nodup
 at_:∀(i:Nat)(o:IX),h[i]?=Za o->∃a,ι[i]?=Za a/\RO ce K ι H a o
section
variable {ce:CeT}{K:W.Frag}{ι:List Zi}{h:IH}{H:Hp}
theorem Rel.some (R:Rel ce K ι h H){i:Nat}{a:Zi}(e:ι[i]?=Za a):∃u,H a=Za u:=by
 have hi:i<h.length:=by rw[<- R.len];exact(Zn.mp e).1
 obtain⟨b,e',r⟩:=R.at_ i _ (Zc hi)
 rw[e] at e'
 cases e'
 exact r.some
theorem Rel.notin (R:Rel ce K ι h H){l:Zi}(e:H l=Zb):l∉ι:=λ hl=>by
 obtain⟨i,hi,q⟩:=Zan.mp hl
 obtain⟨u,hu⟩:=R.some (i:=i) (a:=l) (by rw[Zc hi,q])
 rw[e] at hu
 cases hu
theorem Ext.upd_new {l:Zi}{o:HO}(e:H l=Zb):Ext H (upd H l o) :=
 ⟨λ b xs q=>by rw[Jo (QR q e)];exact q,λ b o u q=>by rw[Jo (QR q e)];exact q⟩
theorem Rel.grow {l:Zi}{o:HO}(R:Rel ce K ι h H)(e:H l=Zb):Rel ce K ι h (upd H l o)/\Nxt ι H ι (upd H l o):=by
 have n:Nxt ι H ι (upd H l o):=⟨⟨[],by simp⟩,Ext.upd_new e⟩
 refine⟨⟨R.len,R.nd,λ i u q=>?_⟩,n⟩
 obtain⟨a,e1,r⟩:=R.at_ i u q
 exact⟨a,e1,r.mono n λ w hw=>by rw[Jo (QR hw e)];exact hw⟩
theorem Rel.alloc {l:Zi}{o:HO}{io:IX}(R:Rel ce K ι h H)(e:H l=Zb)(r:RO ce K (ι++[l]) (upd H l o) l io):Rel ce K (ι++[l]) (h++[io]) (upd H l o)/\Nxt ι H (ι++[l]) (upd H l o):=by
 have n:Nxt ι H (ι++[l]) (upd H l o):=⟨⟨[l],rfl⟩,Ext.upd_new e⟩
 refine⟨⟨by simp[R.len],?_,λ i u q=>?_⟩,n⟩
 ·rw[Zas]
  refine⟨R.nd,by simp,λ a ha b hb=>?_⟩
  have:b=l:=by simpa using hb
  subst this
  rintro rfl
  exact R.notin e ha
 ·by_cases hi:i<h.length
  ·rw[Z7 hi] at q
   obtain⟨a,e1,r1⟩:=R.at_ i u q
   exact⟨a,n.at e1,r1.mono n λ w hw=>by rw[Jo (QR hw e)];exact hw⟩
  ·have hi2:i=h.length:=by
    have:=(Zn.mp q).1
    simp at this
    omega
   subst hi2
   rw[Zu (Zr _)] at q
   simp at q
   subst q
   refine⟨l,?_,r⟩
   rw[<- R.len,Zu (Zr _)]
   simp
theorem Rel.inj (R:Rel ce K ι h H){i j:Nat}{a:Zi}(e1:ι[i]?=Za a)(e2:ι[j]?=Za a):i=j:=by
 obtain⟨h1,q1⟩:=Zn.mp e1
 obtain⟨h2,q2⟩:=Zn.mp e2
 exact(ZdF R.nd).mp (q1.trans q2.symm)
theorem Ext.upd_mut {l:Zi}{o u:HO}(e:H l=Za u)(m:Mut (H l)):Ext H (upd H l o):=by
 refine⟨λ b xs q=>?_,λ b ob w q=>?_⟩
 ·by_cases hb:b=l
  ·subst hb
   rw[q] at m
   exact Zf m
  ·rw[Jo hb];exact q
 ·by_cases hb:b=l
  ·subst hb
   rw[q] at m
   exact Zf m
  ·rw[Jo hb];exact q
theorem Rel.write {i:Nat}{a:Zi}{o u:HO}{io:IX}(R:Rel ce K ι h H)(e:ι[i]?=Za a)(ha:H a=Za u)(m:Mut (H a))(r:RO ce K ι (upd H a o) a io):Rel ce K ι (h.set i io) (upd H a o)/\Nxt ι H ι (upd H a o):=by
 have n:Nxt ι H ι (upd H a o):=⟨⟨[],by simp⟩,Ext.upd_mut ha m⟩
 refine⟨⟨by simp[R.len],R.nd,λ j w q=>?_⟩,n⟩
 by_cases hj:j=i
 ·subst hj
  have hl:j<h.length:=by
   have:=(Zn.mp q).1
   simpa using this
  rw[ZX hl] at q
  cases q
  exact⟨a,e,r⟩
 ·rw[ZZ (ZW hj)] at q
  obtain⟨b,e1,r1⟩:=R.at_ j w q
  refine⟨b,e1,r1.mono n λ v hv=>?_⟩
  have:b≠a:=by
   rintro rfl
   exact hj (R.inj e1 e)
  rw[Jo this]
  exact hv
end
structure RSt (K:W.Frag)(ι:List Zi)(H:Hp)(σi:ISt)(σ:L2.St):Prop where
 len:σi.length=σ.length
 at_:∀(j:Nat)(v:IV),σi[j]?=Za (Za v)->∃u,σ[j]?=Za (Za u)/\RV K ι H v u
theorem RSt.mono {K:W.Frag}{ι ι':List Zi}{H H':Hp}{σi:ISt}{σ:L2.St}(n:Nxt ι H ι' H')(r:RSt K ι H σi σ):RSt K ι' H' σi σ :=
 ⟨r.len,λ j v e=>let ⟨u,e1,q⟩:=r.at_ j v e;⟨u,e1,RV.mono n _ _ q⟩⟩
theorem RSt.set {K:W.Frag}{ι:List Zi}{H:Hp}{σi:ISt}{σ:L2.St}(r:RSt K ι H σi σ)(i:Nat){x:IV}{v:V}(q:RV K ι H x v):RSt K ι H (σi.set i (Za x)) (σ.set i (Za v)):=by
 refine⟨by simp[r.len],λ j w e=>?_⟩
 by_cases hj:j=i
 ·subst hj
  have hl:j<σi.length:=by
   have:=(Zn.mp e).1
   simpa using this
  rw[ZX hl] at e
  cases e
  exact⟨v,by rw[ZX (by rw[<- r.len];exact hl)],q⟩
 ·rw[ZZ (ZW hj)] at e
  obtain⟨u,e1,q1⟩:=r.at_ j w e
  exact⟨u,by rw[ZZ (ZW hj)];exact e1,q1⟩
structure Now (ce:CeT)(X:Cx)(pj:PnT)(ι:List Zi)(σi:ISt)(h:IH)(σ:L2.St)(H:Hp)(s:Zk):Prop where
 inv:Inv X pj σ H s
 rel:Rel ce X.K ι h H
 st:RSt X.K ι H σi σ
def RU (K:W.Frag)(ι:List Zi)(H:Hp)(v:IV)(u:Zd):Prop:=∃x,RelV x u/\RV K ι H v x
theorem RU.mono {K:W.Frag}{ι ι':List Zi}{H H':Hp}{v:IV}{u:Zd}(n:Nxt ι H ι' H')(r:RU K ι H v u):RU K ι' H' v u :=
 let ⟨x,a,b⟩:=r;⟨x,a,RV.mono n _ _ b⟩
def RUs (K:W.Frag)(ι:List Zi)(H:Hp)(vs:List IV)(us:List Zd):Prop:=∃xs,Vals xs us/\RVs K ι H vs xs
theorem RUs.mono {K:W.Frag}{ι ι':List Zi}{H H':Hp}{v:List IV}{u:List Zd}(n:Nxt ι H ι' H')(r:RUs K ι H v u):RUs K ι' H' v u :=
 let ⟨x,a,b⟩:=r;⟨x,a,RVs.mono n _ _ b⟩
abbrev REL (α β:Type):=W.Frag->List Zi->Hp->α->β->Prop
def RB:REL Bool Bool:=λ _ _ _ b c=>c=b
section
variable {α β γ δ:Type}
def Kont (ce:CeT)(X:Cx)(R:REL α β)(pj:PnT)(ι:List Zi)(σi:ISt)(σ:L2.St)(H:Hp)(r:Res α)(Q:β->Zk->Prop)(E:QvT):Prop :=
 match r with
 | .ok v h'=>∀u s' H' ι',Now ce X pj ι' σi h' σ H' s'->Nxt ι H ι' H'->R X.K ι' H' v u->Q u s'
 | .exc n h'=>∀pl a s' H' ι',Now ce X (pj++pl) ι' σi h' σ H' s'->Nxt ι H ι' H'->ι'[n]?=Za a->E (.ref a) s'
 | .stuck=>False
variable {ce:CeT}{X:Cx}{R:REL α β}{R':REL γ δ}{pj:PnT}{ι ι':List Zi}{σi:ISt}{σ:L2.St}{H H':Hp}
theorem Kont.mono {r:Res α}{Q:β->Zk->Prop}{E:QvT}(k:Kont ce X R pj ι σi σ H r Q E)(n:Nxt ι H ι' H'):Kont ce X R pj ι' σi σ H' r Q E:=by
 cases r with
 | ok v h'=>exact λ u s' H2 ι2 N n2 q=>k u s' H2 ι2 N (n.trans n2) q
 | exc m h'=>exact λ pl a s' H2 ι2 N n2 q=>k pl a s' H2 ι2 N (n.trans n2) q
 | stuck=>exact k
def PX (ce:CeT)(X:Cx)(R:REL α β)(t:Sem β)(m:ISt->IH->Res α):Prop :=
 ∀(pj:PnT)(s:Zk)(σ:L2.St)(H:Hp)(ι:List Zi)(σi:ISt)(h:IH)(Q:β->Zk->Prop)(E:QvT),Now ce X pj ι σi h σ H s->Kont ce X R pj ι σi σ H (m σi h) Q E ->
  Zq (Z1 X.prog X.w) X.A t Q E s
theorem PX.run {t:Sem β}{m:ISt->IH->Res α}(p:PX ce X R t m){s:Zk}{h:IH}(N:Now ce X pj ι σi h σ H s){g:α->IH->Res γ}{Q:δ->Zk->Prop}{E:QvT}{Q1:β->Zk->Prop}
  (K:Kont ce X R' pj ι σi σ H ((m σi h).bind g) Q E)
  (step:∀x h1 u s1 H1 ι1,Now ce X pj ι1 σi h1 σ H1 s1->Nxt ι H ι1 H1->R X.K ι1 H1 x u->Kont ce X R' pj ι1 σi σ H1 (g x h1) Q E->Q1 u s1):Zq (Z1 X.prog X.w) X.A t Q1 E s:=by
 refine p pj s σ H ι σi h Q1 E N ?_
 cases e:m σi h with
 | ok v h' =>
  rw[e] at K
  exact λ u s' H' ι' N' n' r=>step v h' u s' H' ι' N' n' r (Kont.mono (r:=g v h') K n')
 | exc n h' =>
  rw[e] at K
  exact K
 | stuck =>
  rw[e] at K
  exact K
end
abbrev PEi (ce:CeT)(X:Cx)(e:Expr)(m:ISt->IH->Res IV):Prop:=PX ce X RU (ZaJ e X.env) m
abbrev PTi (ce:CeT)(X:Cx)(e:Expr)(m:ISt->IH->Res Bool):Prop:=PX ce X RB (Zex e X.env (ZaJ e X.env)) m
def PWi (ce:CeT)(X:Cx)(e:Expr)(m:ISt->IH->Res Bool):Prop:=∀whole:Sem Zd,PX ce X RB (Zex e X.env whole) m
def PAi (ce:CeT)(X:Cx)(es:List Expr)(m:ISt->IH->Res (List IV)):Prop:=∀pos:Pos,PX ce X RUs (spliced (ZaU pos (Z9 es X.env))) m
abbrev E1:=ISt->IH->Res IV
abbrev T1:=ISt->IH->Res Bool
abbrev A1:=ISt->IH->Res (List IV)
noncomputable def Ja (i:Nat):E1:=λ σ h=>match σ[i]? with|some (Za v)=>.ok v h|_=>.stuck
noncomputable def eC (v:IV):E1:=λ _ h=>.ok v h
def Jc (f:IV->IV->IH->Res IV)(a b:E1):E1:=λ σ h=>(a σ h).bind λ x h1=>(b σ h1).bind λ y h2=>f x y h2
def eUn (f:IV->IH->Res IV)(a:E1):E1:=λ σ h=>(a σ h).bind λ x h1=>f x h1
def eAnd (a b:E1)(tr:IV->IH->Res Bool):E1:=λ σ h=>(a σ h).bind λ x h1=>(tr x h1).bind λ c h2=>if c then b σ h2 else .ok x h2
def eOr (a b:E1)(tr:IV->IH->Res Bool):E1:=λ σ h=>(a σ h).bind λ x h1=>(tr x h1).bind λ c h2=>if c then .ok x h2 else b σ h2
def eIf (t:T1)(a b:E1):E1:=λ σ h=>(t σ h).bind λ c h1=>if c then a σ h1 else b σ h1
def Q3 (a b:T1):T1:=λ σ h=>(a σ h).bind λ c h1=>if c then b σ h1 else .ok Zj h1
def tOrI (a b:T1):T1:=λ σ h=>(a σ h).bind λ c h1=>if c then .ok Ze h1 else b σ h1
def J8 (a:T1):T1:=λ σ h=>(a σ h).bind λ c h1=>.ok (!c) h1
def Jh (tr:IV->IH->Res Bool)(a:E1):T1:=λ σ h=>(a σ h).bind λ x h1=>tr x h1
noncomputable def Jd:A1:=λ _ h=>.ok [] h
def Jb (a:E1)(r:A1):A1:=λ σ h=>(a σ h).bind λ x h1=>(r σ h1).bind λ xs h2=>.ok (x::xs) h2
def QB (f g:IV->IV->IH->Res IV)(a b c:E1):E1:=λ σ h=>(a σ h).bind λ x h1=>(b σ h1).bind λ y h2=>(f x y h2).bind λ k h3 =>
 match k with
 | .bl Ze=>(c σ h3).bind λ z h4=>g y z h4
 | .bl Zj=>.ok (.bl Zj) h3
 | _=>.stuck
section
variable {ce:CeT}{X:Cx}{a b c:Expr}{ma mb mc:E1}{pos:Pos}
def OpI (ce:CeT)(X:Cx)(f:Zd->Zd->Sem Zd)(g:IV->IV->IH->Res IV):Prop :=
 ∀(pj:PnT)(s:Zk)(σ:L2.St)(H:Hp)(ι:List Zi)(σi:ISt)(h:IH)(x y:IV)(v u:Zd)(Q:QvT)(E:QvT),Now ce X pj ι σi h σ H s->RU X.K ι H x v->RU X.K ι H y u ->
  Kont ce X RU pj ι σi σ H (g x y h) Q E->Zq (Z1 X.prog X.w) X.A (f v u) Q E s
def UnI (ce:CeT)(X:Cx)(f:Zd->Sem Zd)(g:IV->IH->Res IV):Prop :=
 ∀(pj:PnT)(s:Zk)(σ:L2.St)(H:Hp)(ι:List Zi)(σi:ISt)(h:IH)(x:IV)(v:Zd)(Q:QvT)(E:QvT),Now ce X pj ι σi h σ H s->RU X.K ι H x v ->
  Kont ce X RU pj ι σi σ H (g x h) Q E->Zq (Z1 X.prog X.w) X.A (f v) Q E s
def TrI (ce:CeT)(X:Cx)(g:IV->IH->Res Bool):Prop :=
 ∀(pj:PnT)(s:Zk)(σ:L2.St)(H:Hp)(ι:List Zi)(σi:ISt)(h:IH)(x:IV)(v:Zd)(Q:Bool->Zk->Prop)(E:QvT),Now ce X pj ι σi h σ H s->RU X.K ι H x v ->
  Kont ce X RB pj ι σi σ H (g x h) Q E->Zq (Z1 X.prog X.w) X.A (truthy v) Q E s
def Qu (ce:CeT)(X:Cx)(f:Zd)(g:List IV->IH->Res IV):Prop :=
 ∀(pj:PnT)(s:Zk)(σ:L2.St)(H:Hp)(ι:List Zi)(σi:ISt)(h:IH)(xs:List IV)(us:List Zd)(Q:QvT)(E:QvT),Now ce X pj ι σi h σ H s->RUs X.K ι H xs us ->
  Kont ce X RU pj ι σi σ H (g xs h) Q E->Zq (Z1 X.prog X.w) X.A (call f us) Q E s
theorem Xo {pj:PnT}{s:Zk}{σ:L2.St}{H:Hp}{Q:QvT}{E:QvT}{e:Expr}{t:TE}(p:PE (X.wish E) e t)(I:Inv X pj σ H s)
  (k:t σ H λ z H'=>∀u s',Inv X pj σ H' s'->RelV z u->Q u s'):Zq (Z1 X.prog X.w) X.A (ZaJ e X.env) Q E s :=
 ZP (p pj s σ H _ (I.wish E) k) (λ u s' ⟨_,_,I',r,q⟩=>q u s' I'.unwish r) λ _ _ z=>z
theorem JP {pj:PnT}{s:Zk}{σ:L2.St}{H:Hp}{Q:QvT}{E:QvT}{f:Zd->Zd->Sem Zd}{r:R2}{x y:V}{v u:Zd}(p:OpR (X.wish E) f r)(I:Inv X pj σ H s)(rx:RelV x v)(ry:RelV y u)
  (k:r x y H λ z H'=>∀u s',Inv X pj σ H' s'->RelV z u->Q u s'):Zq (Z1 X.prog X.w) X.A (f v u) Q E s :=
 ZP (p pj s σ H x y v u _ (I.wish E) rx ry k) (λ u s' ⟨_,_,I',r,q⟩=>q u s' I'.unwish r) λ _ _ z=>z
theorem Jz1 {pj:PnT}{s:Zk}{σ:L2.St}{H:Hp}{Q:QvT}{E:QvT}{f:Zd->Sem Zd}{r:V->Hp->VK->Prop}{x:V}{v:Zd}(p:UnR (X.wish E) f r)(I:Inv X pj σ H s)(rx:RelV x v)
  (k:r x H λ z H'=>∀u s',Inv X pj σ H' s'->RelV z u->Q u s'):Zq (Z1 X.prog X.w) X.A (f v) Q E s :=
 ZP (p pj s σ H x v _ (I.wish E) rx k) (λ u s' ⟨_,_,I',r,q⟩=>q u s' I'.unwish r) λ _ _ z=>z
theorem V4 {pj:PnT}{s:Zk}{σ:L2.St}{H:Hp}{Q:Bool->Zk->Prop}{E:QvT}{r:V->Hp->(Bool->Hp->Prop)->Prop}{x:V}{v:Zd}(p:TruR (X.wish E) r)(I:Inv X pj σ H s)(rx:RelV x v)
  (k:r x H λ z H'=>∀s',Inv X pj σ H' s'->Q z s'):Zq (Z1 X.prog X.w) X.A (truthy v) Q E s :=
 ZP (p pj s σ H x v _ (I.wish E) rx k) (λ _ s' ⟨_,I',q⟩=>q s' I'.unwish) λ _ _ z=>z
theorem QI {pj:PnT}{s:Zk}{σ:L2.St}{H:Hp}{Q:QvT}{E:QvT}{f:Zd}{r:List V->Hp->VK->Prop}{xs:List V}{us:List Zd}(p:VQ (X.wish E) f r)(I:Inv X pj σ H s)(rx:Vals xs us)
  (k:r xs H λ z H'=>∀u s',Inv X pj σ H' s'->RelV z u->Q u s'):Zq (Z1 X.prog X.w) X.A (call f us) Q E s :=
 ZP (p pj s σ H xs us _ (I.wish E) rx k) (λ u s' ⟨_,_,I',r,q⟩=>q u s' I'.unwish r) λ _ _ z=>z
theorem Jvl (i:Nat){x:Str}{pos:Pos}(hN:X.N[i]?=Za x:=by rfl)(hv:Vis X.env.scope x:=by assumption)(hd:(x==("__debug__":Str))=Zj:=by decide)
  (hcd:(x==("__classdict__":Str))=Zj:=by decide):PEi ce X (.Name x pos) (Ja i):=by
 intro pj s σ H ι σi h Q E N K
 unfold Ja at K
 cases e:σi[i]? with
 | none =>
  rw[e] at K
  exact Zf K
 | some o =>
  cases o with
  | none =>
   rw[e] at K
   exact Zf K
  | some v =>
   rw[e] at K
   obtain⟨u,e1,q⟩:=N.st.at_ i v e
   exact Xo (Jzf (X:=X.wish E) hN hv hd hcd) N.inv ⟨u,e1,λ u' s' I' r'=>K u' s' H ι ⟨I',N.rel,N.st⟩ .refl ⟨u,r',q⟩⟩
theorem Jvf {i j pos}:PEi ce X (.Constant (.int i) j pos) (eC (.int i)):=λ _ _ _ H ι _ _ _ E N K=>Xo (Jzc (X:=X.wish E)) N.inv λ u' s' I' r'=>K u' s' H ι ⟨I',N.rel,N.st⟩ .refl ⟨_,r',rfl⟩
theorem i_bl {i j pos}:PEi ce X (.Constant (.bool i) j pos) (eC (.bl i)):=λ _ _ _ H ι _ _ _ E N K=>Xo (J1g (X:=X.wish E)) N.inv λ u' s' I' r'=>K u' s' H ι ⟨I',N.rel,N.st⟩ .refl ⟨_,r',rfl⟩
theorem Jyc {j pos}:PEi ce X (.Constant .none j pos) (eC .non):=λ _ _ _ H ι _ _ _ E N K=>Xo (Jzd (X:=X.wish E)) N.inv λ u' s' I' r'=>K u' s' H ι ⟨I',N.rel,N.st⟩ .refl ⟨_,r',rfl⟩
theorem Jye {i j pos}:PEi ce X (.Constant (.str i) j pos) (eC (.str i)):=λ _ _ _ H ι _ _ _ E N K=>Xo (Jze (X:=X.wish E)) N.inv λ u' s' I' r'=>K u' s' H ι ⟨I',N.rel,N.st⟩ .refl ⟨_,r',rfl⟩
theorem Jx5 {x:Str}{v:V}{iv:IV}{u:Zd}{pos:Pos}(hg:Gl X x)(hm:X.mg x=Za u)(r:RelV v u)(q:∀ι H,RV X.K ι H iv v)(hd:(x==("__debug__":Str))=Zj:=by decide):PEi ce X (.Name x pos) (eC iv) :=
 λ _ _ _ H ι _ _ _ E N K=>Xo (Jv7 (X:=X.wish E) hg hm r hd) N.inv λ u' s' I' r'=>K u' s' H ι ⟨I',N.rel,N.st⟩ .refl ⟨_,r',q _ _⟩
theorem Jxz {op:Operator}{f:IV->IV->IH->Res IV}(ho:OpI ce X (ZaQ op) f)(ha:PEi ce X a ma)(hb:PEi ce X b mb):PEi ce X (.BinOp a op b pos) (Jc f ma mb) :=
 λ pj s σ H ι σi h Q E N K=>wpAny_BinOp (ha.run N K λ x h1 u s1 H1 ι1 N1 n1 r1 K1=>hb.run N1 K1 λ y h2 w s2 H2 ι2 N2 n2 r2 K2=>ho pj s2 σ H2 ι2 σi h2 x y u w Q E N2 (r1.mono n2) r2 K2)
theorem i_un {op:UnaryOp}{f:IV->IH->Res IV}(ho:UnI ce X (unaryOp op) f)(ha:PEi ce X a ma):PEi ce X (.UnaryOp op a pos) (eUn f ma) :=
 λ pj s σ H ι σi h Q E N K=>UnaryOp_ (ha.run N K λ x h1 u s1 H1 ι1 N1 n1 r1 K1=>ho pj s1 σ H1 ι1 σi h1 x u Q E N1 r1 K1)
theorem Jx1 {op:CmpOp}{f:IV->IV->IH->Res IV}(ho:OpI ce X (Zak op) f)(ha:PEi ce X a ma)(hb:PEi ce X b mb)(hm:Zbf op b=Zj:=by assumption):PEi ce X (.Compare a [op] [b] pos) (Jc f ma mb) :=
 λ pj s σ H ι σi h Q E N K=>wpAny_Compare1 (ha.run N K λ x h1 u s1 H1 ι1 N1 n1 r1 K1=>hb.run N1 K1 λ y h2 w s2 H2 ι2 N2 n2 r2 K2=>ho pj s2 σ H2 ι2 σi h2 x y u w Q E N2 (r1.mono n2) r2 K2) hm
noncomputable def asB:IV->IH->Res Bool
 | .bl b,h=>.ok b h
 | _,_=>.stuck
theorem Kont.asB {pj:PnT}{σ:L2.St}{H:Hp}{ι:List Zi}{σi:ISt}{r:Res IV}{Q:Bool->Zk->Prop}{E:QvT}(K:Kont ce X RB pj ι σi σ H (r.bind asB) Q E) :
  Kont ce X RU pj ι σi σ H r (λ v s=>Zq (Z1 X.prog X.w) X.A (truthy v) Q E s) E:=by
 cases r with
 | exc n h=>exact K
 | stuck=>exact K
 | ok v h =>
  intro u s' H' ι' N n q
  obtain⟨x,rx,q⟩:=q
  cases v with
  | bl b =>
   have e:x=.bl b:=q
   subst e
   cases rx
   exact Zbl (K b s' H' ι' N n rfl)
  | _=>exact Zf K
theorem Res.bind_bind {α β γ:Type}(r:Res α)(f:α->IH->Res β)(g:β->IH->Res γ):(r.bind f).bind g=r.bind λ x h=>(f x h).bind g:=by
 cases r<;>rfl
theorem Jzt {op:CmpOp}{f:IV->IV->IH->Res IV}(ho:OpI ce X (Zak op) f)(ha:PEi ce X a ma)(hb:PEi ce X b mb)(hm:Zbf op b=Zj:=by assumption):PTi ce X (.Compare a [op] [b] pos) (Jh asB (Jc f ma mb)) :=
 λ pj s σ H ι σi h Q E N K=>by
  have K':Kont ce X RB pj ι σi σ H ((ma σi h).bind λ x h1=>(mb σi h1).bind λ y h2=>(f x y h2).bind asB) Q E:=by
   unfold Jh Jc at K
   rw[Res.bind_bind] at K
   simp only[Res.bind_bind] at K
   exact K
  exact wpAny_isTrue_Compare1 (ha.run N K' λ x h1 u s1 H1 ι1 N1 n1 r1 K1=>hb.run N1 K1 λ y h2 w s2 H2 ι2 N2 n2 r2 K2=>ho pj s2 σ H2 ι2 σi h2 x y u w _ E N2 (r1.mono n2) r2 (Kont.asB K2)) hm
theorem Js5 {tr:IV->IH->Res Bool}(ht:TrI ce X tr)(ha:PEi ce X a ma)(he:∀whole,Zex a X.env whole=(do let v<-whole;Ze8 a.pos;Zdk [v] (truthy v)):=by intro _;rfl):PTi ce X a (Jh tr ma) :=
 λ pj s σ H ι σi h Q E N K=>isTrue_plain (ha.run N K λ x h1 u s1 H1 ι1 N1 n1 r1 K1=>ht pj s1 σ H1 ι1 σi h1 x u Q E N1 r1 K1) (he _)
variable {rest:List Expr}{ta tb:T1}
theorem Jwq (ha:PTi ce X a ta):PWi ce X (.BoolOp .And [a] pos) ta:=λ wh pj s σ H ι σi h Q E N K=>by
 refine isTrue_and (ha pj s σ H ι σi h _ E N ?_)
 cases e:ta σi h with
 | ok v h' =>
  rw[e] at K
  intro u s' H' ι' N' n' r
  have r':u=v:=r
  subst r'
  cases u with
  | true=>exact isTrue_and_nil (K Ze s' H' ι' N' n' rfl)
  | false=>exact K Zj s' H' ι' N' n' rfl
 | exc n h'=>rw[e] at K;exact K
 | stuck=>rw[e] at K;exact K
theorem Jzx (ha:PTi ce X a ta):PWi ce X (.BoolOp .Or [a] pos) ta:=λ wh pj s σ H ι σi h Q E N K=>by
 refine isTrue_or (ha pj s σ H ι σi h _ E N ?_)
 cases e:ta σi h with
 | ok v h' =>
  rw[e] at K
  intro u s' H' ι' N' n' r
  have r':u=v:=r
  subst r'
  cases u with
  | false=>exact isTrue_or_nil (K Zj s' H' ι' N' n' rfl)
  | true=>exact K Ze s' H' ι' N' n' rfl
 | exc n h'=>rw[e] at K;exact K
 | stuck=>rw[e] at K;exact K
theorem Jzw (ha:PTi ce X a ta)(hb:PWi ce X (.BoolOp .And (b::rest) pos) tb):PWi ce X (.BoolOp .And (a::b::rest) pos) (Q3 ta tb):=λ wh pj s σ H ι σi h Q E N K =>
 isTrue_and (ha.run N K λ c h1 u s1 H1 ι1 N1 n1 r1 K1=>by
  have r':u=c:=r1
  subst r'
  cases u with
  | true=>exact hb wh pj s1 σ H1 ι1 σi h1 Q E N1 K1
  | false=>exact K1 Zj s1 H1 ι1 N1 .refl rfl)
theorem J1q (ha:PTi ce X a ta)(hb:PWi ce X (.BoolOp .Or (b::rest) pos) tb):PWi ce X (.BoolOp .Or (a::b::rest) pos) (tOrI ta tb):=λ wh pj s σ H ι σi h Q E N K =>
 isTrue_or (ha.run N K λ c h1 u s1 H1 ι1 N1 n1 r1 K1=>by
  have r':u=c:=r1
  subst r'
  cases u with
  | false=>exact hb wh pj s1 σ H1 ι1 σi h1 Q E N1 K1
  | true=>exact K1 Ze s1 H1 ι1 N1 .refl rfl)
theorem PWi.t (h:PWi ce X a ta):PTi ce X a ta:=h _
theorem Jzu (ha:PTi ce X a ta):PTi ce X (.UnaryOp .Not a pos) (J8 ta):=λ pj s σ H ι σi h Q E N K =>
 isTrue_not (ha.run N K λ c h1 u s1 H1 ι1 N1 n1 r1 K1=>by
  have r':u=c:=r1
  subst r'
  exact K1 (!u) s1 H1 ι1 N1 .refl rfl)
theorem Jyd {op}(h:PEi ce X a ma):PEi ce X (.BoolOp op [a] pos) ma:=λ pj s σ H ι σi h' Q E N K=>BoolOp_one (h pj s σ H ι σi h' Q E N K)
theorem J0v {tr:IV->IH->Res Bool}(ht:TrI ce X tr)(ha:PEi ce X a ma)(hb:PEi ce X (.BoolOp .And (b::rest) pos) mb):PEi ce X (.BoolOp .And (a::b::rest) pos) (eAnd ma mb tr):=λ pj s σ H ι σi h Q E N K =>
 BoolOp_and (ha.run N K λ x h1 u s1 H1 ι1 N1 n1 r1 K1=>by
  refine ht pj s1 σ H1 ι1 σi h1 x u _ E N1 r1 ?_
  cases e:tr x h1 with
  | ok c h2 =>
   rw[e] at K1
   intro d s2 H2 ι2 N2 n2 r2
   have r':d=c:=r2
   subst r'
   have K2:=Kont.mono (r:=if d=Ze then mb σi h2 else .ok x h2) K1 n2
   cases d with
   | true=>exact hb pj s2 σ H2 ι2 σi h2 Q E N2 K2
   | false=>exact K2 u s2 H2 ι2 N2 .refl (r1.mono n2)
  | exc n h'=>rw[e] at K1;exact K1
  | stuck=>rw[e] at K1;exact K1)
theorem i_or {tr:IV->IH->Res Bool}(ht:TrI ce X tr)(ha:PEi ce X a ma)(hb:PEi ce X (.BoolOp .Or (b::rest) pos) mb):PEi ce X (.BoolOp .Or (a::b::rest) pos) (eOr ma mb tr):=λ pj s σ H ι σi h Q E N K =>
 BoolOp_or (ha.run N K λ x h1 u s1 H1 ι1 N1 n1 r1 K1=>by
  refine ht pj s1 σ H1 ι1 σi h1 x u _ E N1 r1 ?_
  cases e:tr x h1 with
  | ok c h2 =>
   rw[e] at K1
   intro d s2 H2 ι2 N2 n2 r2
   have r':d=c:=r2
   subst r'
   have K2:=Kont.mono (r:=if d=Ze then .ok x h2 else mb σi h2) K1 n2
   cases d with
   | false=>exact hb pj s2 σ H2 ι2 σi h2 Q E N2 K2
   | true=>exact K2 u s2 H2 ι2 N2 .refl (r1.mono n2)
  | exc n h'=>rw[e] at K1;exact K1
  | stuck=>rw[e] at K1;exact K1)
def Vy (tr:IV->IH->Res Bool):IV->IH->Res IV:=λ x h=>(tr x h).bind λ c h1=>.ok (.bl (!c)) h1
theorem Jwr {tr:IV->IH->Res Bool}(ht:TrI ce X tr):UnI ce X (unaryOp .Not) (Vy tr):=λ pj s σ H ι σi h x v Q E N r K=>by
 refine not_of (ht pj s σ H ι σi h x v _ E N r ?_)
 unfold Vy at K
 cases e:tr x h with
 | ok c h2 =>
  rw[e] at K
  intro d s2 H2 ι2 N2 n2 r2
  have r':d=c:=r2
  subst r'
  exact K _ s2 H2 ι2 N2 n2 ⟨.bl (!d),rfl,rfl⟩
 | exc n h'=>rw[e] at K;exact K
 | stuck=>rw[e] at K;exact K
theorem Jve {t:Expr}{mt:T1}(ht:PTi ce X t mt)(ha:PEi ce X a ma)(hb:PEi ce X b mb):PEi ce X (.IfExp t a b pos) (eIf mt ma mb):=λ pj s σ H ι σi h Q E N K =>
 wpAny_IfExp (ht.run N K λ c h1 u s1 H1 ι1 N1 n1 r1 K1=>by
  have r':u=c:=r1
  subst r'
  cases u with
  | true=>exact ha pj s1 σ H1 ι1 σi h1 Q E N1 K1
  | false=>exact hb pj s1 σ H1 ι1 σi h1 Q E N1 K1)
theorem Jvc {op op':CmpOp}{f g:IV->IV->IH->Res IV}(ho:OpI ce X (Zak op) f)(ho':OpI ce X (Zak op') g)(ha:PEi ce X a ma)(hb:PEi ce X b mb)(hc:PEi ce X c mc)
  (hm:ZdL [op,op'] [b,c]=Zj:=by with_unfolding_all rfl):PEi ce X (.Compare a [op,op'] [b,c] pos) (QB f g ma mb mc):=λ pj s σ H ι σi h Q E N K =>
 Compare_chain (ha.run N K λ x h1 u s1 H1 ι1 N1 n1 r1 K1=>chain_link (hb.run N1 K1 λ y h2 w s2 H2 ι2 N2 n2 r2 K2=>by
  refine ho pj s2 σ H2 ι2 σi h2 x y u w _ E N2 (r1.mono n2) r2 ?_
  cases e:f x y h2 with
  | exc n h'=>rw[e] at K2;exact K2
  | stuck=>rw[e] at K2;exact K2
  | ok k h3 =>
   rw[e] at K2
   intro d s3 H3 ι3 N3 n3 r3
   obtain⟨z,rz,q⟩:=r3
   cases k with
   | bl k =>
    have e':z=.bl k:=q
    subst e'
    cases rz
    refine Zbl ?_
    have K3:=Kont.mono (r:=match IV.bl k with|.bl Ze=>(mc σi h3).bind λ z h4=>g y z h4|.bl Zj=>.ok (.bl Zj) h3|_=>.stuck) K2 n3
    cases k with
    | false=>exact ite_ff (K3 _ s3 H3 ι3 N3 .refl ⟨.bl Zj,rfl,rfl⟩)
    | true=>exact ite_tt (chain_last (hc.run N3 K3 λ z h4 w' s4 H4 ι4 N4 n4 r4 K4=>ho' pj s4 σ H4 ι4 σi h4 y z w w' Q E N4 ((r2.mono n3).mono n4) r4 K4))
   | _=>exact Zf K2)) hm
theorem Jwo {op op':CmpOp}{f g:IV->IV->IH->Res IV}(ho:OpI ce X (Zak op) f)(ho':OpI ce X (Zak op') g)(ha:PEi ce X a ma)(hb:PEi ce X b mb)(hc:PEi ce X c mc)
  (hm:ZdL [op,op'] [b,c]=Zj:=by with_unfolding_all rfl):PTi ce X (.Compare a [op,op'] [b,c] pos) (Jh asB (QB f g ma mb mc)):=λ pj s σ H ι σi h Q E N K=>by
 have K':Kont ce X RB pj ι σi σ H ((ma σi h).bind λ x h1=>(mb σi h1).bind λ y h2=>(f x y h2).bind λ k h3=>(match k with|.bl Ze=>(mc σi h3).bind λ z h4=>g y z h4|.bl Zj=>.ok (.bl Zj) h3|_=>.stuck:Res IV).bind asB) Q E:=by
  unfold Jh QB at K
  rw[Res.bind_bind] at K
  simp only[Res.bind_bind] at K
  exact K
 refine isTrue_chain (ha.run N K' λ x h1 u s1 H1 ι1 N1 n1 r1 K1=>test_link (hb.run N1 K1 λ y h2 w s2 H2 ι2 N2 n2 r2 K2=>?_)) hm
 refine ho pj s2 σ H2 ι2 σi h2 x y u w _ E N2 (r1.mono n2) r2 ?_
 cases e:f x y h2 with
 | exc n h'=>rw[e] at K2;exact K2
 | stuck=>rw[e] at K2;exact K2
 | ok k h3 =>
  rw[e] at K2
  intro d s3 H3 ι3 N3 n3 r3
  obtain⟨z,rz,q⟩:=r3
  cases k with
  | bl k =>
   have e':z=.bl k:=q
   subst e'
   cases rz
   refine Zbl ?_
   have K3:=Kont.mono (r:=(match IV.bl k with|.bl Ze=>(mc σi h3).bind λ z h4=>g y z h4|.bl Zj=>.ok (.bl Zj) h3|_=>.stuck:Res IV).bind asB) K2 n3
   cases k with
   | false=>exact ite_ff (K3 _ s3 H3 ι3 N3 .refl rfl)
   | true =>
    have K3':Kont ce X RB pj ι3 σi σ H3 ((mc σi h3).bind λ z h4=>(g y z h4).bind asB) Q E:=by
     have:=K3
     dsimp only at this
     rw[Res.bind_bind] at this
     exact this
    exact ite_tt (test_last (hc.run N3 K3' λ z h4 w' s4 H4 ι4 N4 n4 r4 K4=>ho' pj s4 σ H4 ι4 σi h4 y z w w' _ E N4 ((r2.mono n3).mono n4) r4 (Kont.asB K4)))
  | _=>exact Zf K2
variable {es:List Expr}{mr:A1}
theorem RUs.nil {K:W.Frag}{ι:List Zi}{H:Hp}:RUs K ι H [] []:=⟨[],.nil,rfl⟩
theorem RUs.cons {K:W.Frag}{ι:List Zi}{H:Hp}{x:IV}{u:Zd}{xs:List IV}{us:List Zd}(a:RU K ι H x u)(b:RUs K ι H xs us):RUs K ι H (x::xs) (u::us) :=
 let ⟨v,r,q⟩:=a;let ⟨vs,rs,qs⟩:=b;⟨v::vs,.cons r rs,v,vs,rfl,q,qs⟩
theorem Qb:PAi ce X [] Jd:=λ _ pj s σ H ι σi h Q E N K=>Calls.spliced_nil (K [] s H ι N .refl .nil)
theorem JX (ha:PEi ce X a ma)(hr:PAi ce X es mr)(hs:Z9 (a::es) X.env=(Zj,ZaJ a X.env)::Z9 es X.env:=by rfl):PAi ce X (a::es) (Jb ma mr):=by
 intro pos pj s σ H ι σi h Q E N K
 rw[hs]
 show Zq _ _ (spliced ((Zj,ZaJ a X.env)::ZaU pos (Z9 es X.env))) _ _ s
 exact Zdt (ha.run N K λ x h1 u s1 H1 ι1 N1 n1 r1 K1=>(hr pos).run N1 K1 λ xs h2 us s2 H2 ι2 N2 n2 r2 K2=>K2 _ s2 H2 ι2 N2 .refl (.cons (r1.mono n2) r2))
end
noncomputable def Jl:IV->IV->IH->Res IV
 | .int i,.int j,h=>.ok (.int (i+j)) h
 | .str x,.str y,h=>if x.length+y.length<=sizeLine then .ok (.str (x++y)) h else .stuck
 | .ref i,.ref j,h=>match h[i]?,h[j]? with
  | some (.lst xs),Za (.lst ys)=>if xs.length+ys.length<=sizeLine then .ok (.ref h.length) (h++[.lst (xs++ys)]) else .stuck
  | _,_=>.stuck
 | .tup xs,.tup ys,h=>if xs≠[]/\ys≠[]/\xs.length+ys.length<=sizeLine then .ok (.tup (xs++ys)) h else .stuck
 | _,_,_=>.stuck
noncomputable def Qi:IV->IV->IH->Res IV
 | .int i,.int j,h=>.ok (.int (i-j)) h
 | _,_,_=>.stuck
def Q8 (i j:Int):Prop:=i.natAbs<2^64∨j.natAbs<2^64∨(i.natAbs.log2<1048576/\j.natAbs.log2<1048576)
instance (i j:Int):Decidable (Q8 i j):=by unfold Q8;exact inferInstance
def Xh:IV->IV->IH->Res IV
 | .int i,.int j,h=>if Q8 i j then .ok (.int (i*j)) h else .stuck
 | .ref i,.int k,h=>match h[i]? with
  | some (.lst xs)=>if -(2^63)<=k/\k<2^63/\xs.length*k.toNat<=sizeLine then .ok (.ref h.length) (h++[.lst (ZN k.toNat xs).flatten]) else .stuck
  | _=>.stuck
 | _,_,_=>.stuck
def JI:IV->IV->IH->Res IV
 | .int i,.int j,h=>if 0<j/\j.natAbs.log2<9000 then .ok (.int (i/j)) h else .stuck
 | _,_,_=>.stuck
def J2:IV->IV->IH->Res IV
 | .int i,.int j,h=>if 0<j then .ok (.int (i%j)) h else .stuck
 | _,_,_=>.stuck
def JK:IV->IV->IH->Res IV
 | .int i,.int j,h=>if 0<=j/\j<=1000000/\i.natAbs<2^64 then .ok (.int (i^j.toNat)) h else .stuck
 | _,_,_=>.stuck
noncomputable def Jv2:IV->IH->Res IV
 | .int i,h=>.ok (.int (-i)) h
 | _,_=>.stuck
section
variable {ce:CeT}{X:Cx}
theorem fin0 {pj:PnT}{s:Zk}{σ:L2.St}{H:Hp}{ι:List Zi}{σi:ISt}{h:IH}{v:IV}{w:V}{Q:QvT}{E:QvT}(N:Now ce X pj ι σi h σ H s)(K:Kont ce X RU pj ι σi σ H (.ok v h) Q E)
  (q:RV X.K ι H v w):∀u s',Inv X pj σ H s'->RelV w u->Q u s':=λ u s' I r=>K u s' H ι ⟨I,N.rel,N.st⟩ .refl ⟨w,r,q⟩
theorem finA {pj:PnT}{s:Zk}{σ:L2.St}{H:Hp}{ι:List Zi}{σi:ISt}{h:IH}{io:IX}{o:HO}{Q:QvT}{E:QvT}(N:Now ce X pj ι σi h σ H s)
  (K:Kont ce X RU pj ι σi σ H (.ok (.ref h.length) (h++[io])) Q E)(l:Zi)(e:H l=Zb)(r:RO ce X.K (ι++[l]) (upd H l o) l io):∀u s',Inv X pj σ (upd H l o) s'->RelV (.ref l) u->Q u s':=λ u s' I ru=>by
 obtain⟨R,n⟩:=N.rel.alloc e r
 refine K u s' _ _ ⟨I,R,N.st.mono n⟩ n ⟨.ref l,ru,l,rfl,?_⟩
 rw[<- N.rel.len,Zu (Zr _)]
 simp
theorem finT {pj:PnT}{s:Zk}{σ:L2.St}{H:Hp}{ι:List Zi}{σi:ISt}{h:IH}{xs:List IV}{vs:List V}{Q:QvT}{E:QvT}(N:Now ce X pj ι σi h σ H s)
  (K:Kont ce X RU pj ι σi σ H (.ok (.tup xs) h) Q E)(l:Zi)(e:H l=Zb)(r:RVs X.K ι H xs vs):∀u s',Inv X pj σ (upd H l (.tup vs)) s'->RelV (.ref l) u->Q u s':=λ u s' I ru=>by
 obtain⟨R,n⟩:=N.rel.grow (o:=.tup vs) e
 exact K u s' _ _ ⟨I,R,N.st.mono n⟩ n ⟨.ref l,ru,l,vs,rfl,SqT.of Jy,RVs.mono n _ _ r⟩
theorem RVs.new {K:W.Frag}{ι:List Zi}{H:Hp}{l:Zi}{o:HO}(e:H l=Zb){xs:List IV}{vs:List V}(r:RVs K ι H xs vs):RVs K (ι++[l]) (upd H l o) xs vs:=RVs.mono ⟨⟨[l],rfl⟩,Ext.upd_new e⟩ _ _ r
theorem Now.at {pj:PnT}{s:Zk}{σ:L2.St}{H:Hp}{ι:List Zi}{σi:ISt}{h:IH}(N:Now ce X pj ι σi h σ H s){i:Nat}{o:IX}(e:h[i]?=Za o){a:Zi}(ha:ι[i]?=Za a):RO ce X.K ι H a o:=by
 obtain⟨b,e1,r⟩:=N.rel.at_ i o e
 rw[ha] at e1
 cases e1
 exact r
theorem J04:OpI ce X (ZaQ .Add) Jl:=by
 intro pj s σ H ι σi h x y v u Q E N rx ry K
 obtain⟨xv,rx,qx⟩:=rx
 obtain⟨yv,ry,qy⟩:=ry
 cases x with
 | int i =>
  cases y with
  | int j =>
   have e1:xv=.int i:=qx
   have e2:yv=.int j:=qy
   subst e1 e2
   exact JP (Jy2 (X:=X.wish E)) N.inv rx ry ⟨i,j,rfl,rfl,fin0 N K rfl⟩
  | _=>exact Zf K
 | str i =>
  cases y with
  | str j =>
   have e1:xv=.str i:=qx
   have e2:yv=.str j:=qy
   subst e1 e2
   dsimp only[Jl] at K
   split at K
   ·rename_i hz
    exact JP (Jm2 (X:=X.wish E)) N.inv rx ry ⟨i,j,rfl,rfl,hz,fin0 N K rfl⟩
   ·exact Zf K
  | _=>exact Zf K
 | tup xs =>
  cases y with
  | tup ys =>
   obtain⟨a,vs,e1,sa,ra⟩:=qx
   obtain⟨b,ws,e2,sb,rb⟩:=qy
   subst e1 e2
   dsimp only[Jl] at K
   split at K
   ·rename_i hz
    obtain⟨h1,h2,h3⟩:=hz
    have n1:vs≠[]:=λ z=>h1 (by have:=ra.length;rw[z] at this;exact ZaG this.symm)
    have n2:ws≠[]:=λ z=>h2 (by have:=rb.length;rw[z] at this;exact ZaG this.symm)
    exact JP (Jv3 (X:=X.wish E)) N.inv rx ry ⟨a,b,vs,ws,rfl,rfl,sa,sb,n1,by rw[ra.length,rb.length];exact h3,λ z=>absurd z n2,λ _ p hp=>finT N K p hp (ra.append rb)⟩
   ·exact Zf K
  | _=>exact Zf K
 | ref i =>
  cases y with
  | ref j =>
   obtain⟨a,e1,ha⟩:=qx
   obtain⟨b,e2,hb⟩:=qy
   subst e1 e2
   dsimp only[Jl] at K
   cases hi:h[i]? with
   | none=>rw[hi] at K;exact Zf K
   | some oi =>
    cases hj:h[j]? with
    | none=>rw[hi,hj] at K;cases oi<;>exact Zf K
    | some oj =>
     rw[hi,hj] at K
     cases oi with
     | lst xs =>
      cases oj with
      | lst ys =>
       dsimp only at K
       split at K
       ·rename_i hz
        obtain⟨vs,e1,r1⟩:=N.at hi ha
        obtain⟨ws,e2,r2⟩:=N.at hj hb
        exact JP (Jy3 (X:=X.wish E)) N.inv rx ry ⟨a,b,vs,ws,rfl,rfl,e1,e2,by rw[r1.length,r2.length];exact hz,λ p hp=>finA N K p hp ⟨_,Jy,RVs.new hp (r1.append r2)⟩⟩
       ·exact Zf K
      | _=>exact Zf K
     | _=>exact Zf K
  | _=>exact Zf K
 | _=>cases y<;>exact Zf K
theorem J09:OpI ce X (ZaQ .Sub) Qi:=by
 intro pj s σ H ι σi h x y v u Q E N rx ry K
 obtain⟨xv,rx,qx⟩:=rx
 obtain⟨yv,ry,qy⟩:=ry
 cases x with
 | int i =>
  cases y with
  | int j =>
   have e1:xv=.int i:=qx
   have e2:yv=.int j:=qy
   subst e1 e2
   exact JP (Jy7 (X:=X.wish E)) N.inv rx ry ⟨i,j,rfl,rfl,fin0 N K rfl⟩
  | _=>exact Zf K
 | _=>cases y<;>exact Zf K
theorem Q8.ok {i j:Int}(h:Q8 i j):IntMulOk i j:=by
 rcases h with h|h|⟨h1,h2⟩
 ·exact .of_left (Zd7 (by omega) (by omega))
 ·exact .of_right (Zd7 (by omega) (by omega))
 ·refine .of_bits ?_ ?_
  ·unfold Builtin.Int.intBits
   split
   ·exact Zal _
   ·have:(2:Nat)^20=1048576:=by decide
    omega
  ·unfold Builtin.Int.intBits
   split
   ·exact Zal _
   ·have:(2:Nat)^20=1048576:=by decide
    omega
theorem Jv4:OpR X (ZaQ .Mult) (rI Q8 λ i j=>.int (i*j)):=opI λ _ _ _ _ _ _ _ hc q=>mul_int q hc.ok
theorem J07:OpI ce X (ZaQ .Mult) Xh:=by
 intro pj s σ H ι σi h x y v u Q E N rx ry K
 obtain⟨xv,rx,qx⟩:=rx
 obtain⟨yv,ry,qy⟩:=ry
 cases x with
 | int i =>
  cases y with
  | int j =>
   have e1:xv=.int i:=qx
   have e2:yv=.int j:=qy
   subst e1 e2
   dsimp only[Xh] at K
   split at K
   ·rename_i hz
    exact JP (Jv4 (X:=X.wish E)) N.inv rx ry ⟨i,j,rfl,rfl,hz,fin0 N K rfl⟩
   ·exact Zf K
  | _=>exact Zf K
 | ref i =>
  cases y with
  | int k =>
   obtain⟨a,e1,ha⟩:=qx
   have e2:yv=.int k:=qy
   subst e1 e2
   dsimp only[Xh] at K
   cases hi:h[i]? with
   | none=>rw[hi] at K;exact Zf K
   | some oi =>
    rw[hi] at K
    cases oi with
    | lst xs =>
     dsimp only at K
     split at K
     ·rename_i hz
      obtain⟨vs,e1,r1⟩:=N.at hi ha
      have rr:∀n:Nat,RVs X.K ι H (ZN n xs).flatten (ZN n vs).flatten:=λ n=>by
       induction n with
       | zero=>exact rfl
       | succ n ih =>
        rw[ZaZ,ZaZ,Zb2,Zb2]
        exact r1.append ih
      exact JP (Jy6 (X:=X.wish E)) N.inv rx ry ⟨a,k,vs,rfl,rfl,e1,hz.1,hz.2.1,by rw[r1.length];exact hz.2.2,λ p hp=>finA N K p hp ⟨_,Jy,RVs.new hp (rr _)⟩⟩
     ·exact Zf K
    | _=>exact Zf K
  | _=>exact Zf K
 | _=>cases y<;>exact Zf K
theorem Jsl:OpR X (ZaQ .FloorDiv) (rI (λ _ j=>0<j/\j.natAbs.log2<9000) λ i j=>.int (i/j)):=opI λ i j _ _ _ _ _ hc q=>by
 have h1:(0:Int)<j:=hc.1
 exact floordiv_int (by omega) (by rw[Int.fdiv_eq_ediv_of_nonneg i (by omega)];exact q) (.inl (PyProof.noPylong_of_log2 hc.2))
theorem Jy0:OpI ce X (ZaQ .FloorDiv) JI:=by
 intro pj s σ H ι σi h x y v u Q E N rx ry K
 obtain⟨xv,rx,qx⟩:=rx
 obtain⟨yv,ry,qy⟩:=ry
 cases x with
 | int i =>
  cases y with
  | int j =>
   have e1:xv=.int i:=qx
   have e2:yv=.int j:=qy
   subst e1 e2
   dsimp only[JI] at K
   split at K
   ·rename_i hz
    exact JP (Jsl (X:=X.wish E)) N.inv rx ry ⟨i,j,rfl,rfl,hz,fin0 N K rfl⟩
   ·exact Zf K
  | _=>exact Zf K
 | _=>cases y<;>exact Zf K
theorem J06:OpI ce X (ZaQ .Mod) J2:=by
 intro pj s σ H ι σi h x y v u Q E N rx ry K
 obtain⟨xv,rx,qx⟩:=rx
 obtain⟨yv,ry,qy⟩:=ry
 cases x with
 | int i =>
  cases y with
  | int j =>
   have e1:xv=.int i:=qx
   have e2:yv=.int j:=qy
   subst e1 e2
   dsimp only[J2] at K
   split at K
   ·rename_i hz
    exact JP (Jy4 (X:=X.wish E)) N.inv rx ry ⟨i,j,rfl,rfl,hz,fin0 N K rfl⟩
   ·exact Zf K
  | _=>exact Zf K
 | _=>cases y<;>exact Zf K
theorem J08:OpI ce X (ZaQ .Pow) JK:=by
 intro pj s σ H ι σi h x y v u Q E N rx ry K
 obtain⟨xv,rx,qx⟩:=rx
 obtain⟨yv,ry,qy⟩:=ry
 cases x with
 | int i =>
  cases y with
  | int j =>
   have e1:xv=.int i:=qx
   have e2:yv=.int j:=qy
   subst e1 e2
   dsimp only[JK] at K
   split at K
   ·rename_i hz
    exact JP (Jy5 (X:=X.wish E)) N.inv rx ry ⟨i,j,rfl,rfl,hz,fin0 N K rfl⟩
   ·exact Zf K
  | _=>exact Zf K
 | _=>cases y<;>exact Zf K
theorem J1r:UnI ce X (unaryOp .USub) Jv2:=by
 intro pj s σ H ι σi h x v Q E N rx K
 obtain⟨xv,rx,qx⟩:=rx
 cases x with
 | int i =>
  have e1:xv=.int i:=qx
  subst e1
  exact Jz1 (Jzy (X:=X.wish E)) N.inv rx ⟨i,rfl,fin0 N K rfl⟩
 | _=>exact Zf K
noncomputable def cLt:IV->IV->IH->Res IV
 | .int i,.int j,h=>.ok (.bl (decide (i<j))) h
 | .str x,.str y,h=>.ok (.bl (decide (x.cps.toList<y.cps.toList))) h
 | _,_,_=>.stuck
noncomputable def cLe:IV->IV->IH->Res IV
 | .int i,.int j,h=>.ok (.bl (decide (i<=j))) h
 | .str x,.str y,h=>.ok (.bl (!decide (y.cps.toList<x.cps.toList))) h
 | _,_,_=>.stuck
noncomputable def cGt:IV->IV->IH->Res IV
 | .int i,.int j,h=>.ok (.bl (decide (j<i))) h
 | _,_,_=>.stuck
noncomputable def cGe:IV->IV->IH->Res IV
 | .int i,.int j,h=>.ok (.bl (decide (j<=i))) h
 | _,_,_=>.stuck
theorem o_lt:OpI ce X (Zak .Lt) cLt:=by
 intro pj s σ H ι σi h x y v u Q E N rx ry K
 obtain⟨xv,rx,qx⟩:=rx
 obtain⟨yv,ry,qy⟩:=ry
 cases x with
 | int i =>
  cases y with
  | int j =>
   have e1:xv=.int i:=qx
   have e2:yv=.int j:=qy
   subst e1 e2
   exact JP (J1e (X:=X.wish E)) N.inv rx ry ⟨i,j,rfl,rfl,fin0 N K rfl⟩
  | _=>exact Zf K
 | str i =>
  cases y with
  | str j =>
   have e1:xv=.str i:=qx
   have e2:yv=.str j:=qy
   subst e1 e2
   exact JP (Jpg (X:=X.wish E)) N.inv rx ry ⟨i,j,rfl,rfl,fin0 N K rfl⟩
  | _=>exact Zf K
 | _=>cases y<;>exact Zf K
theorem o_le:OpI ce X (Zak .LtE) cLe:=by
 intro pj s σ H ι σi h x y v u Q E N rx ry K
 obtain⟨xv,rx,qx⟩:=rx
 obtain⟨yv,ry,qy⟩:=ry
 cases x with
 | int i =>
  cases y with
  | int j =>
   have e1:xv=.int i:=qx
   have e2:yv=.int j:=qy
   subst e1 e2
   exact JP (J1d (X:=X.wish E)) N.inv rx ry ⟨i,j,rfl,rfl,fin0 N K rfl⟩
  | _=>exact Zf K
 | str i =>
  cases y with
  | str j =>
   have e1:xv=.str i:=qx
   have e2:yv=.str j:=qy
   subst e1 e2
   obtain⟨t,rfl⟩:=rx
   obtain⟨t',rfl⟩:=ry
   exact PySem.P.le_str (fin0 N K rfl _ s N.inv rfl)
  | _=>exact Zf K
 | _=>cases y<;>exact Zf K
theorem o_gt:OpI ce X (Zak .Gt) cGt:=by
 intro pj s σ H ι σi h x y v u Q E N rx ry K
 obtain⟨xv,rx,qx⟩:=rx
 obtain⟨yv,ry,qy⟩:=ry
 cases x with
 | int i =>
  cases y with
  | int j =>
   have e1:xv=.int i:=qx
   have e2:yv=.int j:=qy
   subst e1 e2
   exact JP (J1c (X:=X.wish E)) N.inv rx ry ⟨i,j,rfl,rfl,fin0 N K rfl⟩
  | _=>exact Zf K
 | _=>cases y<;>exact Zf K
theorem o_ge:OpI ce X (Zak .GtE) cGe:=by
 intro pj s σ H ι σi h x y v u Q E N rx ry K
 obtain⟨xv,rx,qx⟩:=rx
 obtain⟨yv,ry,qy⟩:=ry
 cases x with
 | int i =>
  cases y with
  | int j =>
   have e1:xv=.int i:=qx
   have e2:yv=.int j:=qy
   subst e1 e2
   exact JP (J1b (X:=X.wish E)) N.inv rx ry ⟨i,j,rfl,rfl,fin0 N K rfl⟩
  | _=>exact Zf K
 | _=>cases y<;>exact Zf K
noncomputable def tru:IV->IH->Res Bool
 | .non,h=>.ok Zj h
 | .bl b,h=>.ok b h
 | .int i,h=>.ok (i != 0) h
 | .str x,h=>if x.length<=sizeLine then .ok ((x.length:Int) != 0) h else .stuck
 | .tup xs,h=>.ok (!xs.isEmpty) h
 | .rol xs,h=>.ok (!xs.isEmpty) h
 | .ref i,h=>match h[i]? with
  | some (.lst xs)=>.ok (!xs.isEmpty) h
  | some (.dct kvs)=>.ok (!kvs.isEmpty) h
  | _=>.stuck
theorem RVs.empty {K:W.Frag}{ι:List Zi}{H:Hp}{xs:List IV}{vs:List V}(r:RVs K ι H xs vs):vs.isEmpty=xs.isEmpty:=by
 have:=r.length
 cases xs<;>cases vs<;>simp_all
theorem RPs.empty {κ:Type}{K:W.Frag}{ι:List Zi}{H:Hp}{xs:List (κ×IV)}{vs:List (κ×V)}(r:RPs K ι H xs vs):vs.isEmpty=xs.isEmpty:=by
 have:=r.length
 cases xs<;>cases vs<;>simp_all
theorem finB {pj:PnT}{s:Zk}{σ:L2.St}{H:Hp}{ι:List Zi}{σi:ISt}{h:IH}{c:Bool}{Q:Bool->Zk->Prop}{E:QvT}(N:Now ce X pj ι σi h σ H s)(K:Kont ce X RB pj ι σi σ H (.ok c h) Q E) :
  ∀s',Inv X pj σ H s'->Q c s':=λ s' I=>K c s' H ι ⟨I,N.rel,N.st⟩ .refl rfl
theorem VI:TrI ce X tru:=by
 intro pj s σ H ι σi h x v Q E N rx K
 obtain⟨xv,rx,qx⟩:=rx
 cases x with
 | non =>
  have e1:xv=.non:=qx
  subst e1
  exact V4 (V3 (X:=X.wish E)) N.inv rx ⟨_,rfl,finB N K⟩
 | bl b =>
  have e1:xv=.bl b:=qx
  subst e1
  exact V4 (V3 (X:=X.wish E)) N.inv rx ⟨_,rfl,finB N K⟩
 | int i =>
  have e1:xv=.int i:=qx
  subst e1
  exact V4 (V3 (X:=X.wish E)) N.inv rx ⟨_,rfl,finB N K⟩
 | str y =>
  have e1:xv=.str y:=qx
  subst e1
  dsimp only[tru] at K
  split at K
  ·rename_i hz
   exact V4 (V3 (X:=X.wish E)) N.inv rx ⟨_,⟨hz,rfl⟩,finB N K⟩
  ·exact Zf K
 | tup xs =>
  obtain⟨a,vs,e1,sa,ra⟩:=qx
  subst e1
  exact V4 (V3 (X:=X.wish E)) N.inv rx ⟨!xs.isEmpty,.inr (.inl ⟨vs,sa,by rw[ra.empty]⟩),finB N K⟩
 | rol xs =>
  obtain⟨a,vs,e1,sa,ra⟩:=qx
  subst e1
  exact V4 (V3 (X:=X.wish E)) N.inv rx ⟨!xs.isEmpty,.inl ⟨vs,sa.sq,by rw[ra.empty]⟩,finB N K⟩
 | ref i =>
  obtain⟨a,e1,ha⟩:=qx
  subst e1
  dsimp only[tru] at K
  cases hi:h[i]? with
  | none=>rw[hi] at K;exact Zf K
  | some oi =>
   rw[hi] at K
   cases oi with
   | lst xs =>
    obtain⟨vs,e1,r1⟩:=N.at hi ha
    exact V4 (V3 (X:=X.wish E)) N.inv rx ⟨!xs.isEmpty,.inl ⟨vs,SqL.of e1,by rw[r1.empty]⟩,finB N K⟩
   | dct kvs =>
    obtain⟨vs,e1,r1⟩:=N.at hi ha
    exact V4 (V3 (X:=X.wish E)) N.inv rx ⟨!kvs.isEmpty,.inr (.inr ⟨vs,e1,by rw[r1.empty]⟩),finB N K⟩
   | _=>exact Zf K
def eTup (a:A1):E1:=λ σ h=>(a σ h).bind λ xs h1=>if xs.length<=sizeLine then .ok (.tup xs) h1 else .stuck
def J7 (a:A1):E1:=λ σ h=>(a σ h).bind λ xs h1=>if xs.length<=sizeLine then .ok (.ref h1.length) (h1++[.lst xs]) else .stuck
variable {es:List Expr}{mr:A1}{pos:Pos}
theorem Jyf {x1}(hr:PAi ce X es mr):PEi ce X (.Tuple es x1 pos) (eTup mr):=λ pj s σ H ι σi h Q E N K=>by
 refine wpAny_Tuple_spliced ((hr pos).run N K λ xs h1 us s1 H1 ι1 N1 n1 r1 K1=>?_)
 change Kont ce X RU pj ι1 σi σ H1 (if xs.length<=sizeLine then _ else _) Q E at K1
 split at K1
 ·rename_i hz
  obtain⟨vs,rv,qs⟩:=r1
  have hl:=rv.length
  have hl2:=qs.length
  have hf:H1 s1.heap.objs.size=Zb:=N1.inv.hok.fresh (Zr _)
  refine⟨by rw[<- hl,hl2];exact hz,?_⟩
  exact finT N1 K1 s1.heap.objs.size hf qs _ _ (N1.inv.laid (t':=s1.toks) (λ b u e=>Zg _ e) (Zr _) ⟨by rw[hl2];exact hz,us,rv,⟨_,Zy _ rfl,rfl,_,rfl⟩⟩) rfl
 ·exact Zf K1
theorem Jx7 (hr:PAi ce X es mr):PEi ce X (.List es pos) (J7 mr):=λ pj s σ H ι σi h Q E N K=>by
 refine wpAny_List_spliced ((hr pos).run N K λ xs h1 us s1 H1 ι1 N1 n1 r1 K1=>?_)
 change Kont ce X RU pj ι1 σi σ H1 (if xs.length<=sizeLine then _ else _) Q E at K1
 split at K1
 ·rename_i hz
  obtain⟨vs,rv,qs⟩:=r1
  have hl:=rv.length
  have hl2:=qs.length
  have hf:H1 s1.heap.objs.size=Zb:=N1.inv.hok.fresh (Zr _)
  refine⟨by rw[<- hl,hl2];exact hz,?_⟩
  exact finA N1 K1 s1.heap.objs.size hf ⟨_,Jy,RVs.new hf qs⟩ _ _ (N1.inv.laid (t':=s1.toks) (λ b u e=>Zg _ e) (Zr _) ⟨by rw[hl2];exact hz,us,0,rv,Zy _ rfl⟩) rfl
 ·exact Zf K1
end
section
variable {prog:ZA}{w:ZM}{A:ZG}{E:QvT}{s:Zk}
theorem Ji0 {it t:Zi}{items:Array Zd}(hne:t≠it):∀(n i:Nat)(s:Zk)(Q:List Zd->Zk->Prop),s.heap.IsListIter it t i->s.heap.IsList t items->i+n<=items.size ->
  (∀h',h'.IsListIter it t (i+n)->Zc7 it s.heap h'->Q ((items.toList.drop i).take n) { s with heap:=h' })->Zq (Z1 prog w) A (draw (.ref it) n) Q E s
 | 0,i,s,Q,hit,_,_,hQ=>by
  show Zq _ _ (pure []) Q E s
  exact Zw (by simpa using hQ s.heap hit (Heap.SameBut.refl ..))
 | n+1,i,s,Q,hit,ht,hle,hQ=>by
  have hlt:i<items.size:=by omega
  show Zq _ _ (Zcp (.ref it)>>=_) Q E s
  refine Zh (Zc8 hit ht (x:=items[i]) (by simp[hlt]) λ h₁ hit₁ hs₁=>?_)
  refine Zh (Zat (Ji0 hne n (i+1) _ _ hit₁ (ht.extBut hs₁.extBut hne) (by omega) λ h₂ hit₂ hs₂=>Zw ?_))
  have hd:items.toList.drop i=items[i]::items.toList.drop (i+1):=by simp[Zaw,hlt]
  have:=hQ h₂ (by rw[show i+(n+1)=i+1+n by omega];exact hit₂) (hs₁.trans hs₂)
  rw[hd,List.take_succ_cons] at this
  exact this
theorem Jfb {t:Zi}{items:Array Zd}{Q:List Zd->Zk->Prop}(hh:A.handled=Zb)(ht:s.heap.IsList t items)
  (hQ:∀h',Zek s.heap.objs.size s.heap h'->Q items.toList { s with heap:=h' }):Zq (Z1 prog w) A (unpackItems (.ref t) items.size Zb) Q E s:=by
 have hlt:t≠s.heap.objs.size:=by obtain⟨o,ho,_⟩:=ht;exact ZD (Zx ho)
 unfold unpackItems
 refine Zh ?_
 ·unfold notIterableAtAll
  refine Zh (wpAny_specialOf ht.typeIs slot_list_iter.lookup ?_)
  refine Zw ?_
  simp only[Zag,if_false]
  refine Zh (Zat (ZaV ht ?_))
  refine Zh (Zat (Ji0 hlt items.size 0 _ _ ⟨_,Zy _ rfl,rfl,rfl⟩ (ht.push _) (by omega) λ h₁ hit₁ hs₁=>?_))
  have hall:List.take items.size (List.drop 0 items.toList)=items.toList:=by
   rw[List.drop_zero];exact ZaW (by simp)
  rw[hall]
  rw[if_neg (by simp)]
  have ht₁:h₁.IsList t items:=(ht.push _).extBut hs₁.extBut hlt
  refine Zh (Zat (Zec hh hit₁ ht₁ (by simp) λ h₂ he₂=>?_))
  simp only[Option.isSome_none,Zag,if_false]
  refine Zw (hQ h₂ λ b o hb e=>he₂ b o hb (hs₁.extBut b o hb (Zg _ e)))
theorem Jem {env:Env}{elts:List Expr}{x1}{pos:Pos}{t:Zi}{items:Array Zd}{Q:Unit->Zk->Prop}(hh:A.handled=Zb)(ht:s.heap.IsList t items)
  (hn:(ZaF elts env).length=items.size)(hstar:(ZaF elts env).findIdx? (·.1)=Zb)
  (h:∀h',Zek s.heap.objs.size s.heap h'->Zq (Z1 prog w) A (Zeu ((ZaF elts env).map (·.2)) items.toList) Q E { s with heap:=h' }) :
  Zq (Z1 prog w) A (Zel (.Tuple elts x1 pos) env (.ref t)) Q E s:=by
 rw[assign_Tuple]
 refine Zh (Zb9 ?_)
 unfold unpack
 rw[hn,hstar]
 exact Zh (Zat (Jfb hh ht h))
end
abbrev S1:=ISt->IH->SRes
structure Noted (L:Zi)(fs:List Zi)(e:Zi)(h h3:ZT):Prop where
 ex:∃oe vs T ts,h.get? e=Za oe/\oe.data=.fields vs/\1<vs.size/\h3.get? e=Za (Zac (·.setIfInBounds 1 (.ref T)) oe)/\T≠e/\h.get? T=Zb/\h3.get? T=Za { cls:=.type "traceback",dict:=Zb,data:=.fields ts }/\ts[3]?=Za (ZbC L)
 slot:∀b o,h.get? b=Za o->b≠e->∃sl,h3.get? b=Za { o with slots:=sl }
 keep:∀b o,h.get? b=Za o->b≠e->b∉fs->h3.get? b=Za o
def Fly (L:Zi)(fs:List Zi)(e:Zi)(s s1:Zk):Prop:=s1=s∨∃h',s1={ s with heap:=h' }/\Noted L fs e s.heap h'
def JA (ce:CeT)(X:Cx)(pj:PnT)(ι:List Zi)(H:Hp)(r:SRes)(Q:Flow->Zk->Prop)(E:QvT):Prop :=
 match r with
 | .next σi' h'=>∀s' σ' H' ι',Now ce X pj ι' σi' h' σ' H' s'->Nxt ι H ι' H'->Q .next s'
 | .brk σi' h'=>∀s' σ' H' ι',Now ce X pj ι' σi' h' σ' H' s'->Nxt ι H ι' H'->Q .brk s'
 | .cont σi' h'=>∀s' σ' H' ι',Now ce X pj ι' σi' h' σ' H' s'->Nxt ι H ι' H'->Q .cont s'
 | .ret v h'=>∀u s' σi' σ' H' ι',Now ce X pj ι' σi' h' σ' H' s'->Nxt ι H ι' H'->RU X.K ι' H' v u->Q (.ret u) s'
 | .exc n σi' h'=>∀pl a s' σ' H' ι',Now ce X (pj++pl) ι' σi' h' σ' H' s'->Nxt ι H ι' H'->ι'[n]?=Za a->∀s1,Fly X.env.locals (frs X.stack) a s' s1->E (.ref a) s1
 | .stuck=>False
theorem JA.mono {ce:CeT}{X:Cx}{pj:PnT}{ι ι':List Zi}{H H':Hp}{r:SRes}{Q:Flow->Zk->Prop}{E:QvT}(k:JA ce X pj ι H r Q E)(n:Nxt ι H ι' H'):JA ce X pj ι' H' r Q E:=by
 cases r with
 | next σ h=>exact λ s' σ' H2 ι2 N n2=>k s' σ' H2 ι2 N (n.trans n2)
 | brk σ h=>exact λ s' σ' H2 ι2 N n2=>k s' σ' H2 ι2 N (n.trans n2)
 | cont σ h=>exact λ s' σ' H2 ι2 N n2=>k s' σ' H2 ι2 N (n.trans n2)
 | ret v h=>exact λ u s' σi' σ' H2 ι2 N n2=>k u s' σi' σ' H2 ι2 N (n.trans n2)
 | exc m σ h=>exact λ pl a s' σ' H2 ι2 N n2=>k pl a s' σ' H2 ι2 N (n.trans n2)
 | stuck=>exact k
def PSi (ce:CeT)(X:Cx)(t:Sem Flow)(m:S1):Prop :=
 ∀(pj:PnT)(s:Zk)(σ:L2.St)(H:Hp)(ι:List Zi)(σi:ISt)(h:IH)(Q:Flow->Zk->Prop)(E:QvT),Now ce X pj ι σi h σ H s->JA ce X pj ι H (m σi h) Q E->Zq (Z1 X.prog X.w) X.A t Q E s
abbrev PS1 (ce:CeT)(X:Cx)(st:Zbv)(m:S1):Prop:=PSi ce X (exec st X.env) m
abbrev PS2 (ce:CeT)(X:Cx)(sts:List Zbv)(m:S1):Prop:=PSi ce X (execs sts X.env) m
noncomputable def Jv:S1:=λ σ h=>.next σ h
def Je (a b:S1):S1:=λ σ h=>match a σ h with
 | .next σ' h'=>b σ' h'
 | r=>r
noncomputable def Jss:S1:=λ σ h=>.next σ h
def Jt3:S1:=λ σ h=>.brk σ h
def Jzk:S1:=λ σ h=>.cont σ h
noncomputable def rS {α:Type}(σ:ISt)(r:Res α)(k:α->IH->SRes):SRes:=match r with
 | .ok a h=>k a h
 | .exc n h=>.exc n σ h
 | .stuck=>.stuck
def JT (e:E1):S1:=λ σ h=>rS σ (e σ h) λ _ h'=>.next σ h'
def Jm (e:E1):S1:=λ σ h=>rS σ (e σ h) λ v h'=>.ret v h'
noncomputable def Jwd:S1:=λ _ h=>.ret .non h
def sIf (t:T1)(a b:S1):S1:=λ σ h=>rS σ (t σ h) λ c h'=>if c then a σ h' else b σ h'
def Ji (i:Nat)(e:E1):S1:=λ σ h=>rS σ (e σ h) λ v h'=>.next (σ.set i (Za v)) h'
section
variable {ce:CeT}{X:Cx}{st:Zbv}{rest:List Zbv}{m m1 m2:S1}{e:Expr}{me:E1}{pos:Pos}
theorem krun {α β:Type}{R:REL α β}{t:Sem β}{mm:ISt->IH->Res α}(p:PX ce X R t mm){pj:PnT}{s:Zk}{σ:L2.St}{H:Hp}{ι:List Zi}{σi:ISt}{h:IH}(N:Now ce X pj ι σi h σ H s){g:α->IH->SRes}{Q:Flow->Zk->Prop}{E:QvT}{Q1:β->Zk->Prop}
  (K:JA ce X pj ι H (rS σi (mm σi h) g) Q E)
  (step:∀x h1 u s1 H1 ι1,Now ce X pj ι1 σi h1 σ H1 s1->Nxt ι H ι1 H1->R X.K ι1 H1 x u->JA ce X pj ι1 H1 (g x h1) Q E->Q1 u s1):Zq (Z1 X.prog X.w) X.A t Q1 E s:=by
 refine p pj s σ H ι σi h Q1 E N ?_
 cases e:mm σi h with
 | ok v h' =>
  rw[e] at K
  exact λ u s' H' ι' N' n' r=>step v h' u s' H' ι' N' n' r (JA.mono (r:=g v h') K n')
 | exc n h' =>
  rw[e] at K
  exact λ pl a s' H' ι' N' n' q=>K pl a s' σ H' ι' N' n' q s' (.inl rfl)
 | stuck =>
  rw[e] at K
  exact K
theorem Jzi:PS2 ce X [] Jv:=λ _ s σ H ι _ _ _ _ N K=>ZbQ (K s σ H ι N .refl)
theorem Jwb (h1:PS1 ce X st m1)(h2:PS2 ce X rest m2):PS2 ce X (st::rest) (Je m1 m2):=by
 intro pj s σ H ι σi h Q E N K
 refine ZdM (h1 pj s σ H ι σi h _ E N ?_)
 unfold Je at K
 cases e:m1 σi h with
 | next σ' h' =>
  rw[e] at K
  exact λ s' σ2 H' ι' N' n'=>h2 pj s' σ2 H' ι' σ' h' Q E N' (JA.mono (r:=m2 σ' h') K n')
 | brk σ' h'=>rw[e] at K;exact K
 | cont σ' h'=>rw[e] at K;exact K
 | ret v h'=>rw[e] at K;exact K
 | exc n σ' h'=>rw[e] at K;exact K
 | stuck=>rw[e] at K;exact K
theorem Jzj (h1:PS1 ce X st m1):PS2 ce X [st] m1:=by
 intro pj s σ H ι σi h Q E N K
 refine ZdM (h1 pj s σ H ι σi h _ E N ?_)
 cases e:m1 σi h with
 | next σ' h' =>
  rw[e] at K
  exact λ s' σ2 H' ι' N' n'=>ZbQ (K s' σ2 H' ι' N' n')
 | brk σ' h'=>rw[e] at K;exact K
 | cont σ' h'=>rw[e] at K;exact K
 | ret v h'=>rw[e] at K;exact K
 | exc n σ' h'=>rw[e] at K;exact K
 | stuck=>rw[e] at K;exact K
theorem Jt5:PS1 ce X (.Pass pos) Jss:=λ _ s σ H ι _ _ _ _ N K=>wpAny_Pass (K s σ H ι N .refl)
theorem Jwe:PS1 ce X (.Break pos) Jt3:=λ _ s σ H ι _ _ _ _ N K=>wpAny_Break (K s σ H ι N .refl)
theorem Jzl:PS1 ce X (.Continue pos) Jzk:=λ _ s σ H ι _ _ _ _ N K=>wpAny_Continue (K s σ H ι N .refl)
theorem Jzm (he:PEi ce X e me)(hs:Zc4 e Zb pos.line X.env=pure Zj:=by rfl):PS1 ce X (.Expr e pos) (JT me):=λ pj s σ H ι σi h Q E N K =>
 wpAny_Expr_any (krun he N K λ x h1 u s1 H1 ι1 N1 n1 r1 K1=>K1 s1 σ H1 ι1 N1 .refl) N.inv.quiet hs
theorem Jzo (he:PEi ce X e me):PS1 ce X (.Return (Za e) pos) (Jm me):=λ pj s σ H ι σi h Q E N K =>
 wpAny_Return_some (krun he N K λ x h1 u s1 H1 ι1 N1 n1 r1 K1=>K1 u s1 σi σ H1 ι1 N1 .refl r1)
theorem Jzp:PS1 ce X (.Return Zb pos) Jwd:=λ pj s σ H ι σi h Q E N K=>wpAny_Return_none (K .none s σi σ H ι N .refl ⟨.non,rfl,rfl⟩)
theorem s_if {c:Expr}{a b:List Zbv}{mt:T1}(hc:PTi ce X c mt)(ha:PS2 ce X a m1)(hb:PS2 ce X b m2):PS1 ce X (.If c a b pos) (sIf mt m1 m2):=λ pj s σ H ι σi h Q E N K =>
 wpAny_If (krun hc N K λ x h1 u s1 H1 ι1 N1 n1 r1 K1=>by
  have r':u=x:=r1
  subst r'
  cases u with
  | true=>exact ha pj s1 σ H1 ι1 σi h1 Q E N1 K1
  | false=>exact hb pj s1 σ H1 ι1 σi h1 Q E N1 K1)
theorem Jwg {i:Nat}{x:Str}{pos':Pos}(hN:X.N.Nodup)(he:PEi ce X e me)(hi:X.N[i]?=Za x:=by rfl)(hx:Loc X.env.scope x:=by assumption)(hs:Zc4 e (Za (.Name x pos')) pos.line X.env=pure Zj:=by rfl)
  (hf:X.fn x=Ze∨X.env.scope.names.lookup x=Za .local:=by assumption):PS1 ce X (.Assign [.Name x pos'] e pos) (Ji i me):=λ pj s σ H ι σi h Q E N K =>
 wpAny_Assign_Name (krun he N K λ v h1 u s1 H1 ι1 N1 n1 r1 K1=>by
  obtain⟨w,rw',q⟩:=r1
  exact XU N1.inv hN hi hx rw' (λ s2 I2=>K1 s2 _ H1 ι1 ⟨I2,N1.rel,N1.st.set i q⟩ .refl) hf) hs
abbrev G1:=IV->ISt->IH->SRes
def PGi (ce:CeT)(X:Cx)(tg:Expr)(g:G1):Prop :=
 ∀(pj:PnT)(s:Zk)(σ:L2.St)(H:Hp)(ι:List Zi)(σi:ISt)(h:IH)(v:IV)(u:Zd)(Q:Flow->Zk->Prop)(E:QvT),Now ce X pj ι σi h σ H s->RU X.K ι H v u->JA ce X pj ι H (g v σi h) Q E ->
  Zq (Z1 X.prog X.w) X.A (Zel tg X.env u) (λ _ s'=>Q .next s') E s
noncomputable def gNm (i:Nat):G1:=λ v σ h=>.next (σ.set i (Za v)) h
theorem g_nm {i:Nat}{x:Str}(hN:X.N.Nodup)(hi:X.N[i]?=Za x:=by rfl)(hx:Loc X.env.scope x:=by assumption)(hf:X.fn x=Ze∨X.env.scope.names.lookup x=Za .local:=by assumption):PGi ce X (.Name x pos) (gNm i):=by
 intro pj s σ H ι σi h v u Q E N r K
 obtain⟨w,rw',q⟩:=r
 exact wpAny_assign_Name (XU N.inv hN hi hx rw' (λ s2 I2=>K s2 _ H ι ⟨I2,N.rel,N.st.set i q⟩ .refl) hf)
def PGsi (ce:CeT)(X:Cx)(ts:List Expr)(g:List IV->ISt->IH->SRes):Prop :=
 ∀(pj:PnT)(s:Zk)(σ:L2.St)(H:Hp)(ι:List Zi)(σi:ISt)(h:IH)(vs:List IV)(us:List Zd)(Q:Flow->Zk->Prop)(E:QvT),Now ce X pj ι σi h σ H s->RUs X.K ι H vs us->JA ce X pj ι H (g vs σi h) Q E ->
  Zq (Z1 X.prog X.w) X.A (Zeu ((ZaF ts X.env).map (·.2)) us) (λ _ s'=>Q .next s') E s
noncomputable def gN:List IV->ISt->IH->SRes
 | [],σ,h=>.next σ h
 | _::_,_,_=>.stuck
def gC (g:G1)(r:List IV->ISt->IH->SRes):List IV->ISt->IH->SRes
 | v::vs,σ,h=>match g v σ h with
  | .next σ' h'=>r vs σ' h'
  | .exc n σ' h'=>.exc n σ' h'
  | _=>.stuck
 | [],_,_=>.stuck
theorem Jxw:PGsi ce X [] gN:=by
 intro pj s σ H ι σi h vs us Q E N r K
 cases vs with
 | nil =>
  obtain⟨xs,rv,q⟩:=r
  have e1:xs=[]:=q
  subst e1
  cases rv
  exact assignInOrder_nil (K s σ H ι N .refl)
 | cons v vs=>exact Zf K
theorem Ju4 {tg:Expr}{ts:List Expr}{g:G1}{r:List IV->ISt->IH->SRes}(h1:PGi ce X tg g)(h2:PGsi ce X ts r)
  (hs:(ZaF (tg::ts) X.env).map (·.2)=Zel tg X.env::(ZaF ts X.env).map (·.2):=by rfl):PGsi ce X (tg::ts) (gC g r):=by
 intro pj s σ H ι σi h vs us Q E N ru K
 cases vs with
 | nil=>exact Zf K
 | cons v vs =>
  obtain⟨xs,rv,x,xr,e1,q,qs⟩:=ru
  subst e1
  cases rv with
  | cons r1 r2 =>
   rw[hs]
   refine assignInOrder_cons (h1 pj s σ H ι σi h v _ (λ f s'=>Zq (Z1 X.prog X.w) X.A (Zeu ((ZaF ts X.env).map (·.2)) _) (λ _ s'=>Q .next s') E s') E N ⟨x,r1,q⟩ ?_)
   have K':JA ce X pj ι H (match g v σi h with|.next σ' h'=>r vs σ' h'|.exc n σ' h'=>.exc n σ' h'|_=>.stuck) Q E:=K
   cases e:g v σi h with
   | next σ' h' =>
    rw[e] at K'
    exact λ s' σ2 H' ι' N' n'=>h2 pj s' σ2 H' ι' σ' h' vs _ Q E N' ⟨xr,r2,RVs.mono n' _ _ qs⟩ (JA.mono (r:=r vs σ' h') K' n')
   | exc n σ' h'=>rw[e] at K';exact K'
   | _=>rw[e] at K';exact(show False from K').elim
def gTp (n:Nat)(g:List IV->ISt->IH->SRes):G1:=λ v σ h=>match v with
 | .tup xs=>if xs.length=n then g xs σ h else .stuck
 | .ref i=>(match h[i]? with
  | some (.lst xs)=>if xs.length=n then g xs σ h else .stuck
  | _=>.stuck)
 | _=>.stuck
theorem J0s {es:List Expr}{k n:Nat}{g:List IV->ISt->IH->SRes}(hc:X.calm=Ze)(hg:PGsi ce X es g)(hn:(ZaF es X.env).length=n:=by rfl)(hst:(ZaF es X.env).findIdx? (·.1)=Zb:=by rfl):PGi ce X (.Tuple es k pos) (gTp n g):=by
 intro pj s σ H ι σi h v u Q E N r K
 obtain⟨w,rw',q⟩:=r
 cases v with
 | tup xs =>
  obtain⟨a,vs,e1,sa,ra⟩:=q
  subst e1
  cases rw'
  unfold gTp at K
  dsimp only at K
  split at K
  ·rename_i hl
   obtain⟨its,rv,ht,hz⟩:=N.inv.tuple sa
   have l1:=ra.length
   have l2:=rv.length
   refine assign_Tuple_tuple (N.inv.ok.hd hc) ht (by simp only[Zz];omega) hst λ h' hx=>?_
   have I1:Inv X pj σ H { s with heap:=h' }:=N.inv.kept (t':=s.toks) λ b o e=>hx b o (ZD (Zx e)) e
   exact hg pj _ σ H ι σi h xs _ Q E ⟨I1,N.rel,N.st⟩ ⟨vs,by simpa using rv,ra⟩ K
  ·exact Zf K
 | ref i =>
  obtain⟨a,e1,ha⟩:=q
  subst e1
  cases rw'
  unfold gTp at K
  dsimp only at K
  cases hi:h[i]? with
  | none=>rw[hi] at K;exact Zf K
  | some ob =>
   rw[hi] at K
   cases ob with
   | lst xs =>
    dsimp only at K
    split at K
    ·rename_i hl
     obtain⟨vs,g1,ra⟩:=N.at hi ha
     obtain⟨its,rv,ht,hz⟩:=N.inv.list (SqL.of g1)
     have l1:=ra.length
     have l2:=rv.length
     refine Jem (N.inv.ok.hd hc) ht.isList (by simp only[Zz];omega) hst λ h' hx=>?_
     have I1:Inv X pj σ H { s with heap:=h' }:=N.inv.kept (t':=s.toks) λ b o e=>hx b o (ZD (Zx e)) e
     exact hg pj _ σ H ι σi h xs _ Q E ⟨I1,N.rel,N.st⟩ ⟨vs,by simpa using rv,ra⟩ K
    ·exact Zf K
   | _=>exact Zf K
 | _=>exact Zf K
def sAsg (e:E1)(g:G1):S1:=λ σ h=>rS σ (e σ h) λ v h'=>g v σ h'
theorem J1l {tg:Expr}{g:G1}(he:PEi ce X e me)(hg:PGi ce X tg g)(hs:swapsWithSole [tg] e pos.line X.env=pure Zj:=by rfl)(hw:swappedStores [tg] e X.env=pure Zb:=by rfl)
  (h1:(ZaF [tg] X.env).map (·.2)=[Zel tg X.env]:=by rfl):PS1 ce X (.Assign [tg] e pos) (sAsg me g):=λ pj s σ H ι σi h Q E N K =>
 wpAny_Assign_stores (krun he N K λ v h2 u s1 H1 ι1 N1 n1 r1 K1=>by
  rw[h1]
  exact hg pj s1 σ H1 ι1 σi h2 v u Q E N1 r1 K1) hs hw
end
theorem ExF.ok {P:ZA}{w:ZM}{H:Hp}{h:ZT}{a C:Zi}{tv:Zd}{dd:Option Zi}{oe:Obj}{vs:Array Zd}(e:h.get? a=Za oe)(c:oe.cls=.ref C)(d:oe.data=.fields vs)(v:vs[1]?=Za tv)(v2:vs[2]?=Za .none)(v3:oe.dict=dd):JE P w H h a (ExF a C tv dd) :=
 ⟨⟨oe,vs,e,c,d,v,v2,v3⟩,⟨oe,e⟩,λ _ _ ⟨o,us,e1,r⟩ k=>⟨o,us,k _ e1,r⟩⟩
theorem ExF.get {P:ZA}{w:ZM}{H:Hp}{h:ZT}{a C:Zi}{tv:Zd}{d:Option Zi}(x:HOk P w H h)(e:H a=Za (ExF a C tv d)):∃oe vs,h.get? a=Za oe/\oe.cls=.ref C/\oe.data=.fields vs/\vs[1]?=Za tv/\vs[2]?=Za .none/\oe.dict=d :=
 (x a _ e).1
theorem Jiz (o:Obj)(f:Array Zd->Array Zd):(o.mapFields f).dict=o.dict:=by
 unfold Zac
 split<;>rfl
theorem Jrj {P:ZA}{w:ZM}{H:Hp}{h:ZT}{a C C':Zi}{tv tv':Zd}{d d':Option Zi}(x:HOk P w H h)(e1:H a=Za (ExF a C tv d))(e2:H a=Za (ExF a C' tv' d')):d=d':=by
 obtain⟨o,_,g,_,_,_,_,q⟩:=ExF.get x e1
 obtain⟨o',_,g',_,_,_,_,q'⟩:=ExF.get x e2
 cases g.symm.trans g'
 exact q.symm.trans q'
theorem Jpf {P:ZA}{w:ZM}{H:Hp}{h:ZT}{a:Zi}:∀{o:HO},JE P w H h a o->∃u,h.get? a=Za u:=λ {o} q=>by
 cases o with
 | lst _=>obtain⟨_,_,_,_,e⟩:=q;exact⟨_,e⟩
 | tup _=>obtain⟨_,_,_,⟨_,e,_⟩⟩:=q;exact⟨_,e⟩
 | dK _=>obtain⟨_,_,_,_,o,_,_,e,_⟩:=q;exact⟨o,e⟩
 | dT _=>obtain⟨_,_,_,_,o,_,_,e,_⟩:=q;exact⟨o,e⟩
 | set _ _=>obtain⟨o,_,_,_,e,_⟩:=q;exact⟨o,e⟩
 | ins _ _ _=>obtain⟨_,_,_,e,_⟩:=q;exact⟨_,e⟩
 | own _=>obtain⟨_,e⟩:=q;exact⟨_,e⟩
 | xd _=>obtain⟨_,⟨_,_,_,e,_⟩,_⟩:=q;exact⟨_,e⟩
 | rng _ _=>obtain⟨_,_,_,e⟩:=q;exact⟨_,e⟩
 | frz _ _=>obtain⟨e,_⟩:=q;exact⟨_,e⟩
 | tbl _=>exact⟨_,(show h.get? a=Za _ from q)⟩
 | met _ _=>exact⟨_,(show h.get? a=Za _ from q)⟩
 | ext _=>obtain⟨_,⟨_,e⟩,_⟩:=q;exact⟨_,e⟩
theorem Jkn {h:ZT}{T:Zi}{oT:Obj}{ts:Array Zd}{v:Zd}(e:h.get? T=Za oT)(d:oT.data=.fields ts)(q:ts[3]?=Za v):(h.update T (Zac (·.setIfInBounds 3 v))).get? T=Za oT:=by
 have es:ts.setIfInBounds 3 v=ts:=by
  refine Array.ext (by simp) λ i h1 h2=>?_
  rw[Array.getElem_setIfInBounds]
  split
  ·rename_i z
   subst z
   rw[Zcm h2] at q
   exact(Zaj q).symm
  ·rfl
 have eo:Zac (·.setIfInBounds 3 v) oT=oT:=by
  obtain⟨c,dd,dt,sl⟩:=oT
  have d:dt=.fields ts:=d
  subst d
  simp only[Zac,es]
 rw[Za3 _ e (by rw[eo];exact Zby d),eo]
section
variable {X:Cx}{pj:PnT}{σ:L2.St}{H:Hp}{s:Zk}{M:Ze4}{E:QvT}{Q:Unit->Zk->Prop}{a C:Zi}{tv:Zd}{d:Option Zi}{h3:ZT}{s1:Zk}
structure Past (X:Cx)(H:Hp)(h:ZT)(a C:Zi)(d:Option Zi)(T:Zi)(oT:Obj)(h':ZT):Prop where
 new:H T=Zb
 ne:T≠a
 fld:∃ts,oT.data=.fields ts/\ts[3]?=Za .none
 un:Un (frs X.stack) [] H (upd (upd H T (.frz oT (.own 0))) a (ExF a C (.ref T) d)) h h'
 hok:HOk X.prog X.w (upd (upd H T (.frz oT (.own 0))) a (ExF a C (.ref T) d)) h'
theorem Jh1 (I:Inv X pj σ H s)(hs:X.stack=X.env::X.outer)(hf:X.env.frame=Za X.env.locals)(ha:H a=Za (ExF a C tv d))(ht:TvOk H tv)
  (k:∀h3,Noted X.env.locals (frs X.stack) a s.heap h3->Q () { s with heap:=h3 }):Zq M X.A (ZdN (.ref a) X.env) Q E s:=by
 obtain⟨oe,vs,e1,e2,e3,e4,e5,e6⟩:=ExF.get I.hok ha
 have hfa:a∉frs X.stack:=λ z=>by rw[I.stkFree a z] at ha;cases ha
 have fr:=I.ok.frames
 have ff:s.heap.FunFrames X.base X.stack:=I.stack
 have len1:1<vs.size:=(Za5.mp e4).1
 have go:∀(h:ZT){head:Zd}{hn:Bool},(∀b,h.get? b=s.heap.get? b)->Zq M X.A (do let f<-frameOf X.env;let pl<-entryPlaceOf X.env.locals hn;let b<-EntryCells.newEntry head f .none (ZbC X.env.locals) .none pl;setField (.ref a) 1 b) Q E { s with heap:=h }:=by
  intro h head hn hh
  have ffh:h.FunFrames X.base X.stack:=ff.of_keeps λ b o q _=>⟨o,(hh b).trans q,rfl⟩
  rw[hs] at fr ffh
  refine Zh (wpAny_frameOf_fun (s:={ s with heap:=h }) fr ffh hf λ h1 so=>?_)
  have he1:h1.get? a=Za oe:=(so.2.1 a (by rw[hs] at hfa;exact hfa)).trans ((hh a).trans e1)
  refine Zh (wpAny_entryPlaceOf λ pl hpl=>?_)
  unfold EntryCells.newEntry newFields
  refine Zh (ZcC ?_ (hpl.sizeOk5 _ _ _ _ _))
  have t3:([head,Za4 X.env.locals,Zaf,ZbC X.env.locals,Zaf]++(if pl.isEmpty then ZN 6 Zaf else pl)).toArray[3]?=Za (ZbC X.env.locals):=by simp
  generalize ([head,Za4 X.env.locals,Zaf,ZbC X.env.locals,Zaf]++(if pl.isEmpty then ZN 6 Zaf else pl)).toArray=ts at t3 ⊢
  have lt2:∀b o,h1.get? b=Za o->b≠h1.objs.size:=λ b o q=>ZD (Zx q)
  have nT:h1.objs.size≠a:=ZW (lt2 a _ he1)
  have up2:∀b o,h1.get? b=Za o->(h1.push { cls:=.type "traceback",dict:=Zb,data:=.fields ts }).get? b=Za o:=λ b o q=>Zg _ q
  have gT2:(h1.push { cls:=.type "traceback",dict:=Zb,data:=.fields ts }).get? h1.objs.size=Za { cls:=.type "traceback",dict:=Zb,data:=.fields ts }:=Zy h1 rfl
  refine ZbE (up2 _ _ he1) e3 len1 (k _ ⟨⟨oe,vs,h1.objs.size,ts,e1,e3,len1,Za3 _ (up2 _ _ he1) (Zby (Zax e3 _)),nT,?_,(Z2 _ _ (ZW nT)).trans gT2,t3⟩,λ b o q n=>?_,λ b o q n m=>?_⟩)
  ·cases q:s.heap.get? h1.objs.size with
   | none=>rfl
   | some o =>
    obtain⟨sl,z⟩:=so.2.2 _ _ ((hh _).trans q)
    exact absurd rfl (lt2 _ _ z)
  ·obtain⟨sl,z⟩:=so.2.2 _ _ ((hh b).trans q)
   exact⟨sl,(Z2 _ _ (ZW n)).trans (up2 _ _ z)⟩
  ·exact(Z2 _ _ (ZW n)).trans (up2 _ _ ((so.2.1 b (by rw[hs] at m;exact m)).trans ((hh b).trans q)))
 unfold ZdN
 rw[hf]
 refine Zh (Zbs e1 e3 e4 ?_)
 rcases ht with rfl|⟨T,oT,ts,rfl,q1,q2,q3⟩
 ·rw[if_neg (by decide)]
  exact go s.heap λ _=>rfl
 ·have gT:s.heap.get? T=Za oT:=(I.hok T _ q1).1
  rw[if_pos (by simp)]
  refine Zh (Zbs gT q2 q3 ?_)
  rw[if_neg (by simp[ZbC])]
  refine Zh (ZbE gT q2 (Za5.mp q3).1 ?_)
  refine go _ λ b=>?_
  by_cases z:b=T
  ·subst z
   exact(Jkn gT q2 q3).trans gT.symm
  ·exact Z2 _ _ (ZW z)
theorem Jdg {A:ZG}{env:Env}{fs:List Zi}{h:ZT}(hf:env.frame=Za env.locals)(n:Noted env.locals fs a h h3)(q:Q () { s with heap:=h3 }):Zq M A (ZdN (.ref a) env) Q E { s with heap:=h3 }:=by
 obtain⟨⟨oe,vs,T,ts,g1,g2,g3,g4,g5,g6,g7,g8⟩,_,_⟩:=n
 unfold ZdN
 rw[hf]
 refine Zh (Zbs (x:=.ref T) g4 (Zax g2 _) (by simp[g3]) ?_)
 rw[if_pos (by simp)]
 refine Zh (Zbs g7 rfl g8 ?_)
 rw[if_pos (by simp)]
 exact Zw q
theorem Jhd {A:ZG}{env:Env}{fs:List Zi}{h:ZT}(hf:env.frame=Za env.locals)(n:Noted env.locals fs a h h3)(k:∀h4,Noted env.locals fs a h h4->E (.ref a) { s with heap:=h4 }):Ze0 M A env E (.ref a) { s with heap:=h3 }:=by
 obtain⟨⟨oe,vs,T,ts,g1,g2,g3,g4,g5,g6,g7,g8⟩,sl,kp⟩:=n
 unfold Ze0
 refine Zh (Zbs (x:=.ref T) g4 (Zax g2 _) (by simp[g3]) ?_)
 rw[if_neg (by simp)]
 rw[hf]
 unfold ZcQ
 refine Zh (Zbs (x:=.ref T) g4 (Zax g2 _) (by simp[g3]) ?_)
 rw[if_pos (by simp)]
 refine ZbE g7 rfl (Za5.mp g8).1 ?_
 have up:∀b o,h3.get? b=Za o->(h3.update T (Zac (·.setIfInBounds 3 (ZbC env.locals)))).get? b=Za o:=λ b o q=>by
  by_cases z:b=T
  ·subst z
   rw[g7] at q
   cases q
   exact Jkn g7 rfl g8
  ·exact(Z2 _ _ (ZW z)).trans q
 exact k _ ⟨⟨oe,vs,T,ts,g1,g2,g3,up _ _ g4,g5,g6,up _ _ g7,g8⟩,λ b o q n=>let ⟨s',z⟩:=sl b o q n;⟨s',up _ _ z⟩,λ b o q n m=>up _ _ (kp b o q n m)⟩
theorem Jhe {L:Zi}(I:Inv X pj σ H s)(ha:H a=Za (ExF a C tv d))(n:Noted L (frs X.stack) a s.heap h3)(k:∀T oT h',Past X H s.heap a C d T oT h'->Q () { s with heap:=h' }):Zq M X.A (ZcQ (.ref a) Zb) Q E { s with heap:=h3 }:=by
 obtain⟨⟨oe,vs,T,ts,g1,g2,g3,g4,g5,nT,g7,g8⟩,sl,kp⟩:=n
 obtain⟨oe',vs',x1,x2,x3,x4,x5,x6⟩:=ExF.get I.hok ha
 rw[g1] at x1
 cases x1
 rw[g2] at x3
 cases x3
 have hok:=I.hok
 have hfr:∀b∈frs X.stack,H b=Zb:=I.stkFree
 have hT:H T=Zb:=by
  cases q:H T with
  | none=>rfl
  | some u =>
   obtain⟨o,z⟩:=Jpf (hok T u q)
   rw[nT] at z
   cases z
 have tz:3<ts.size:=(Za5.mp g8).1
 unfold ZcQ
 refine Zh (Zbs (x:=.ref T) g4 (Zax g2 _) (by simp[g3]) ?_)
 rw[if_pos (by simp)]
 refine ZbE g7 rfl tz ?_
 have e1:=(Z2 h3 (Zac (·.setIfInBounds 3 ((Zb:Option Zi).elim Zaf λ f=>ZbC f))) g5).trans g4
 have e7:=Za3 (Zac (·.setIfInBounds 3 ((Zb:Option Zi).elim Zaf λ f=>ZbC f))) g7 (Zby (Zax rfl _))
 have d7:=Zax (o:={ cls:=.type "traceback",dict:=Zb,data:=.fields ts }) rfl (·.setIfInBounds 3 ((Zb:Option Zi).elim Zaf λ f=>ZbC f))
 have lt:∀b o,s.heap.get? b=Za o->T≠b:=λ b o q z=>by rw[z,q] at nT;cases nT
 have keep:∀b o,s.heap.get? b=Za o->b≠a->b∉frs X.stack->(h3.update T (Zac (·.setIfInBounds 3 ((Zb:Option Zi).elim Zaf λ f=>ZbC f)))).get? b=Za o:=λ b o q n1 n2=>(Z2 _ _ (lt b o q)).trans (kp b o q n1 n2)
 have slot:∀b o,s.heap.get? b=Za o->b≠a->∃sl,(h3.update T (Zac (·.setIfInBounds 3 ((Zb:Option Zi).elim Zaf λ f=>ZbC f)))).get? b=Za { o with slots:=sl }:=λ b o q n1=>let ⟨s',z⟩:=sl b o q n1;⟨s',(Z2 _ _ (lt b o q)).trans z⟩
 generalize h3.update T (Zac (·.setIfInBounds 3 ((Zb:Option Zi).elim Zaf λ f=>ZbC f)))=h' at e1 e7 keep slot
 generalize Zac (·.setIfInBounds 3 ((Zb:Option Zi).elim Zaf λ f=>ZbC f)) { cls:=.type "traceback",dict:=Zb,data:=.fields ts }=oT at e7 d7
 have na:∀{b:Zi}{u:HO},H b=Za u->(∀φ,u≠.ext φ)->b≠a:=λ {b u} q n z=>by
  subst z
  rw[ha] at q
  cases q
  exact n _ rfl
 have nTb:∀{b:Zi}{u:HO},H b=Za u->b≠T:=λ {b u} q z=>by
  subst z
  rw[hT] at q
  cases q
 have up:∀{b:Zi}{u:HO},H b=Za u->(∀φ,u≠.ext φ)->upd (upd H T (.frz oT (.own 0))) a (ExF a C (.ref T) d) b=Za u:=λ {b u} q n=>by
  rw[Jo (na q n),Jo (nTb q)]
  exact q
 have fa:a∉frs X.stack:=λ z=>by rw[hfr a z] at ha;cases ha
 refine k T oT h' ⟨hT,g5,⟨_,d7,by simp[tz]⟩,⟨λ b o q n hb _=>keep b o q (λ z=>by subst z;rw[ha] at n;cases n) hb,λ b o q _ hb _=>slot b o q (λ z=>fa (z▸hb)),λ b o q n _=>?_,λ b o q _=>?_,λ b xs q=>up q nofun,λ b o u q=>up q nofun,λ b ps q=>⟨#[],by rw[up q nofun];simp⟩⟩,λ b u q=>?_⟩
 ·rw[Jo (λ z=>by subst z;rw[ha] at n;cases n),Jo (λ z=>by subst z;rw[nT] at q;cases q)]
  exact n
 ·by_cases z:b=a
  ·subst z
   exact⟨_,e1⟩
  ·obtain⟨sl,w⟩:=slot b o q z
   exact⟨_,w⟩
 ·by_cases z:b=a
  ·subst z
   rw[Jy] at q
   cases q
   exact ExF.ok e1 ((Zd3 _ _).trans x2) (Zax g2 _) (by simp[g3]) (by rw[ZbA (by decide)];exact x5) ((Jiz _ _).trans x6)
  ·rw[Jo z] at q
   by_cases y:b=T
   ·subst y
    rw[Jy] at q
    cases q
    exact⟨e7,⟨oT,e7⟩⟩
   ·rw[Jo y] at q
    refine(hok b u q).stay (λ c v hc p=>?_) (λ c p=>up p nofun) λ c xs p=>up p nofun
    refine keep c v p ?_ ?_
    ·rcases hc with rfl|hc
     ·exact z
     ·exact na hc nofun
    ·intro m
     rcases hc with rfl|hc
     ·rw[hfr _ m] at q;cases q
     ·rw[hfr _ m] at hc;cases hc
theorem Jlm (I:Inv X pj σ H s)(fl:Fly X.env.locals (frs X.stack) a s s1)(hs:X.stack=X.env::X.outer)(hf:X.env.frame=Za X.env.locals)(ha:H a=Za (ExF a C tv d))(ht:TvOk H tv)
  (k:∀T oT h',Past X H s.heap a C d T oT h'->Q () { s with heap:=h' }):Zq M X.A (ZdN (.ref a) X.env) (λ _ s'=>Zq M X.A (ZcQ (.ref a) Zb) Q E s') E s1:=by
 rcases fl with rfl|⟨h',rfl,n⟩
 ·exact Jh1 I hs hf ha ht λ h3 n=>Jhe I ha n k
 ·exact Jdg hf n (Jhe I ha n k)
theorem Jo6 (I:Inv X pj σ H s)(fl:Fly X.env.locals (frs X.stack) a s s1)(hs:X.stack=X.env::X.outer)(hf:X.env.frame=Za X.env.locals)(ha:H a=Za (ExF a C tv d))(ht:TvOk H tv)
  (k:∀T oT h',Past X H s.heap a C d T oT h'->Q () { s with heap:=h' }):Zq M X.A (leaving X.env (.ref a)) Q E s1:=by
 unfold leaving
 exact Zh (Jlm I fl hs hf ha ht k)
end
def CXI (P:ZA)(w:ZM):CXT:=λ outer H s E e s'=>∃H',s'.os=s.os/\Zdh s'.gens/\Un (frs outer) [] H H' s.heap s'.heap/\HOk P w H' s'.heap/\E e Zb H'
theorem Un.tail {L:Zi}{fs:List Zi}{H H1 H2:Hp}{h h1 h2:ZT}(a:Un fs [] H H1 h h1)(b:Un (L::fs) [] H1 H2 h1 h2)(n:h.get? L=Zb):Un fs [] H H2 h h2 where
 keep:=λ c o q m hc _=>b.keep c o (a.keep c o q m hc (by simp)) (a.free c o q m (by simp)) (λ z=>(ZB.mp z).elim (λ y=>by subst y;rw[n] at q;cases q) hc) (by simp)
 slot:=λ c o q m hc _=>by
  obtain⟨sl,e1⟩:=a.slot c o q m hc (by simp)
  obtain⟨sl',e2⟩:=b.any e1 (a.free c o q m (by simp)) (by simp)
  exact⟨sl',e2⟩
 free:=λ c o q m _=>by
  obtain⟨o',e1⟩:=a.there c o q (by simp)
  exact b.free c o' e1 (a.free c o q m (by simp)) (by simp)
 there:=λ c o q _=>by
  obtain⟨o',e1⟩:=a.there c o q (by simp)
  exact b.there c o' e1 (by simp)
 tups:=λ c xs q=>b.tups c xs (a.tups c xs q)
 frzs:=λ c o u q=>b.frzs c o u (a.frzs c o u q)
 tbls:=λ c ps q=>by
  obtain⟨m1,e1⟩:=a.tbls c ps q
  obtain⟨m2,e2⟩:=b.tbls c _ e1
  exact⟨m1++m2,by rw[e2,Zdp]⟩
section
variable {X:Cx}{pj:PnT}{σ:L2.St}{H:Hp}{s:Zk}{k:Nat}{f C:Zi}{fd:Zam}{ps:List Str}{sp:Sp}{dvs:List V}{ds:List Zd}{E:XK}{Q:VK}{us:List Zd}{vs:List V}{W:QvT}
theorem Jp3 {e:Zd}{s':Zk}(I:Inv X pj σ H s)(h:CXI X.prog X.w X.stack H s E e s'):∃H',Inv X pj σ H' s'/\E e Zb H':=by
 obtain⟨H',os,bare,un,hok,q⟩:=h
 exact⟨H',I.call' os un hok bare λ b z=>absurd z (by simp),q⟩
theorem Jwa (F:FnOk X.prog X.w X.K X.mg X.base (CXI X.prog X.w) k f fd ps sp)(hr:Room k X.A)(hb:JL X.K fd ps ds)(hd:Vals dvs ds)(I:Inv X pj σ H s)(r:Vals vs us)(h:sp (vs++dvs) H Q E)
  (hx:∀e s' H',Inv X pj σ H' s'->E e Zb H'->W e s'):Zq (Z1 X.prog X.w) X.A (call (.ref f) us) (EP X pj σ Q) W s:=by
 have ra:Vals (vs++dvs) (us++ds):=r.append hd
 have la:=ra.length
 have lf:=F.len _ _ _ _ h
 refine Zc0 (ZbN (F.run _ _ _ _ ⟨us,[]⟩ _ _ _ _ hr I.env0 (hb s us I.kIn (by omega)) ra h) λ res s' q=>?_)
 match res,q with
 | .error e,q =>
  obtain⟨H',I',z⟩:=Jp3 I q
  exact hx e s' H' I' z
 | .ok (.ret u),q=>exact I.after q
 | .ok .next,q=>exact Za2 q
 | .ok .brk,q=>exact Za2 q
 | .ok .cont,q=>exact Za2 q
theorem Jpm (M:Mk X.K C f)(F:FnOk X.prog X.w X.K X.mg X.base (CXI X.prog X.w) k f fd ps sp)(hr:Room (k+1) X.A)(hb:JL X.K fd ps ds)(hd:Vals dvs ds)(I:Inv X pj σ H s)(r:Vals vs us)
  (h:∀x dx,H x=Zb->H dx=Zb->dx≠x->sp (.ref x::(vs++dvs)) (upd (upd H dx (.own x)) x (.ins C dx [])) (λ v H2=>v=.non/\Q (.ref x) H2) E)
  (hx:∀e s' H',Inv X pj σ H' s'->E e Zb H'->W e s'):Zq (Z1 X.prog X.w) X.A (call (.ref C) us) (EP X pj σ Q) W s:=by
 have z0:=s.heap.objs.size
 have hq:=h (s.heap.objs.size+1) s.heap.objs.size (I.hok.fresh (Zao _)) (I.hok.fresh (Zr _)) (ZD (ZaR _))
 have J:=Inv.made (C:=C) I
 have ra:Vals (V.ref (s.heap.objs.size+1)::(vs++dvs)) (Za4 (s.heap.objs.size+1)::(us++ds)):=.cons rfl (r.append hd)
 have la:=ra.length
 have lf:=F.len _ _ _ _ hq
 have hl:(Za4 (s.heap.objs.size+1)::us++ds).length=ps.length:=by
  rw[ZH]
  omega
 refine Zc0 (Jse (f:=f) I.kIn M.makes M.init (beq_iff_eq.mp M.fn) (ZbN (F.run _ _ _ _ ⟨.ref (s.heap.objs.size+1)::us,[]⟩ _ _ _ _ (hr.make C us []) (J.env0.make C us []) (hb _ (.ref (s.heap.objs.size+1)::us) J.kIn hl) ra hq) λ res s' q=>?_))
 match res,q with
 | .error e,q =>
  obtain⟨H',I',z⟩:=Jp3 J q
  exact hx e s' H' I' z
 | .ok (.ret u),q =>
  obtain⟨v,H',J3,rv,ev,q3⟩:=J.after q
  subst ev
  exact⟨rv,⟨V.ref (s.heap.objs.size+1),H',J3,rfl,q3⟩⟩
 | .ok .next,q=>exact Za2 q
 | .ok .brk,q=>exact Za2 q
 | .ok .cont,q=>exact Za2 q
end
structure ItI where
 xs:List IV
 chk:IH->Prop
open Classical in
def JU (chk:IH->Prop)(g:G1)(b:S1):List IV->ISt->IH->SRes
 | [],σ,h=>if chk h then .next σ h else .stuck
 | x::xs,σ,h=>if chk h then(match g x σ h with
   | .next σ1 h1=>(match b σ1 h1 with
    | .next σ2 h2=>JU chk g b xs σ2 h2
    | .cont σ2 h2=>JU chk g b xs σ2 h2
    | .brk σ2 h2=>.next σ2 h2
    | .ret v h2=>.ret v h2
    | .exc n σ2 h2=>(match h2[n]? with
     | some (.exc _ _)=>.exc n σ2 h2
     | _=>.stuck)
    | _=>.stuck)
   | _=>.stuck) else .stuck
abbrev I1:=ISt->IH->Res ItI
def sFor (it:I1)(g:G1)(b:S1):S1:=λ σ h=>rS σ (it σ h) λ J h'=>JU J.chk g b J.xs σ h'
structure ItOk (ce:CeT)(K:W.Frag)(ι:List Zi)(H₀:Hp)(J:It)(I:ItI):Prop where
 go:∀(k:Nat)(x:IV)(h:IH)(H:Hp)(ι':List Zi),Nxt ι H₀ ι' H->Rel ce K ι' h H->I.chk h->I.xs[k]?=Za x ->
  J.go k H/\∀y H',J.yld k H y H'->Rel ce K ι' h H'/\Nxt ι' H ι' H'/\RV K ι' H' x y
 stop:∀(k:Nat)(h:IH)(H:Hp)(ι':List Zi),Nxt ι H₀ ι' H->Rel ce K ι' h H->I.chk h->I.xs.length<=k->J.stop k H
theorem Rel.get {ce:CeT}{K:W.Frag}{ι:List Zi}{h:IH}{H:Hp}(R:Rel ce K ι h H){i:Nat}{o:IX}(e:h[i]?=Za o){a:Zi}(ha:ι[i]?=Za a):RO ce K ι H a o:=by
 obtain⟨b,e1,r⟩:=R.at_ i o e
 rw[ha] at e1
 cases e1
 exact r
def RIt (ce:CeT)(X:Cx)(tg:Expr)(pj:PnT)(ι':List Zi)(I:ItI)(itv:Zd)(s2:Zk)(H':Hp):Prop :=
 ∃(it:Zi)(fp:List Zi)(tn:Nat->ZT->Prop)(J:It),itv=.ref it/\Turn X.prog X.w X.K tg J fp it tn/\tn 0 s2.heap/\(∀b∈fp,FpOk X pj H' b)/\ItOk ce X.K ι' H' J I
def PIi (ce:CeT)(X:Cx)(tg iter:Expr)(m:I1):Prop :=
 ∀(pj:PnT)(s:Zk)(σ:L2.St)(H:Hp)(ι:List Zi)(σi:ISt)(h:IH)(Q:QvT)(E:QvT),Now ce X pj ι σi h σ H s ->
  (match m σi h with
   | .ok I h'=>∀itv s' H' ι',Now ce X pj ι' σi h' σ H' s'->Nxt ι H ι' H'->RIt ce X tg pj ι' I itv s' H'->Q itv s'
   | .exc n h'=>∀pl a s' H' ι',Now ce X (pj++pl) ι' σi h' σ H' s'->Nxt ι H ι' H'->ι'[n]?=Za a->E (.ref a) s'
   | .stuck=>False) ->
  Zq (Z1 X.prog X.w) X.A (ZaJ iter X.env) (λ v s1=>Zq (Z1 X.prog X.w) X.A (Zey v) Q E s1) E s
section
variable {ce:CeT}{X:Cx}
theorem nof {M:Ze4}{A:ZG}{α:Type}{t:Sem α}{Q:α->Zk->Prop}{E:QvT}{s:Zk}(h:Zq M A t Q (λ _ _=>False) s):Zq M A t Q E s:=ZP h (λ _ _ x=>x) λ _ _ z=>z.elim
theorem Now.pins {pj:PnT}{pl:PnT}{ι:List Zi}{σi:ISt}{h:IH}{σ:L2.St}{H:Hp}{s:Zk}(N:Now ce X (pj++pl) ι σi h σ H s):Now ce X pj ι σi h σ H s:=⟨N.inv.unpinned,N.rel,N.st⟩
theorem J1n {tg iter:Expr}{body:List Zbv}{mi:I1}{g:G1}{mb:S1}{pos:Pos}(hc:X.calm=Ze)(hst:X.stack=X.env::X.outer)(hf:X.env.frame=Za X.env.locals)(hi:PIi ce X tg iter mi)(hg:PGi ce X tg g)(hb:PS2 ce X body mb)
  (hs:∀x,Zb3 iter X.env x=pure x:=by intro _;rfl):PS1 ce X (.For tg iter body [] pos) (sFor mi g mb):=by
 intro pj s σ H ι σi h Q E N K
 refine wpAny_For (hi pj s σ H ι σi h _ E N ?_) hs
 unfold sFor at K
 cases e0:mi σi h with
 | exc n h'=>rw[e0] at K;exact λ pl a s' H' ι' N' n' q=>K pl a s' σ H' ι' N' n' q s' (.inl rfl)
 | stuck=>rw[e0] at K;exact K
 | ok I h' =>
  rw[e0] at K
  intro itv s2 H2 ι2 N2 n2 R
  obtain⟨it,fp,tn,J,e,T,st2,f2,OK⟩:=R
  subst e
  have stat:∀{H':Hp},(∀b∈fp,H' b=Zb)->∀b∈fp,FpOk X pj H' b:=λ hn b hb=>⟨hn b hb,(f2 b hb).2⟩
  have K2:JA ce X pj ι2 H2 (JU I.chk g mb I.xs σi h') Q E:=JA.mono (r:=JU I.chk g mb I.xs σi h') K n2
  refine codeAny_forLoop_any (λ n s'=>∃k ιk σk hk σ' H',Now ce X pj ιk σk hk σ' H' s'/\Nxt ι2 H2 ιk H'/\tn k s'.heap/\(∀b∈fp,H' b=Zb)/\n=I.xs.length-k/\k<=I.xs.length/\JA ce X pj ιk H' (JU I.chk g mb (I.xs.drop k) σk hk) Q E) ?_ I.xs.length
   ⟨0,ι2,σi,h',σ,H2,N2,.refl,st2,λ b hb=>(f2 b hb).1,by simp,Zal _,by simpa using K2⟩
  rintro n s3 ⟨k,ιk,σk,hk,σ3,H3,N3,n3,st3,fr3,rfl,hkl,K3⟩
  by_cases hlt:k<I.xs.length
  ·-- a turn
   have hd:I.xs.drop k=I.xs[k]::I.xs.drop (k+1):=Zaw hlt
   rw[hd] at K3
   unfold JU at K3
   split at K3
   ·rename_i hck
    obtain⟨go,yl⟩:=OK.go k I.xs[k] hk H3 ιk n3 N3.rel hck (Zc hlt)
    refine nof (thn (T.item X rfl rfl rfl hc k pj s3 σ3 H3 (λ _ _=>False) N3.inv (stat fr3) st3 go) λ r s4 ⟨u,hr,h4⟩=>?_)
    subst hr
    refine nof (thn h4 λ _ s5 ⟨x,H5,I5,r5,y5,st5,fr5⟩=>?_)
    obtain⟨R5,n5,q5⟩:=yl x H5 y5
    have I5':=I5.pinned (stat fr5) (T.obj _ _ st5)
    have N5:Now ce X (pj++Qz fp s5.heap) ιk σk hk σ3 H5 s5:=⟨I5',R5,N3.st.mono n5⟩
    cases eg:g I.xs[k] σk hk with
    | next σg hgg =>
     rw[eg] at K3
     dsimp only at K3
     refine nof (hg _ s5 σ3 H5 ιk σk hk _ u (λ _ s6=>Zq (Z1 X.prog X.w) X.A (execs body X.env) _ _ s6) (λ _ _=>False) N5 ⟨x,r5,q5⟩ ?_)
     rw[eg]
     intro s6 σ6 H6 ι6 N6 n6
     refine hb _ s6 σ6 H6 ι6 σg hgg _ _ N6 ?_
     have again:∀{σ7:L2.St}{H7:Hp}{s7:Zk}{σ7i:ISt}{h7:IH}{ι7:List Zi},Now ce X (pj++Qz fp s5.heap) ι7 σ7i h7 σ7 H7 s7->Nxt ι6 H6 ι7 H7->JA ce X pj ιk H3 (JU I.chk g mb (I.xs.drop (k+1)) σ7i h7) Q E ->
       ∃m,m<I.xs.length-k/\∃k ιk σk hk σ' H',Now ce X pj ιk σk hk σ' H' s7/\Nxt ι2 H2 ιk H'/\tn k s7.heap/\(∀b∈fp,H' b=Zb)/\m=I.xs.length-k/\k<=I.xs.length/\JA ce X pj ιk H' (JU I.chk g mb (I.xs.drop k) σk hk) Q E :=
      λ {σ7 H7 s7 σ7i h7 ι7} N7 n7 K7=>by
       have nn:Nxt ιk H3 ι7 H7:=(n5.trans n6).trans n7
       refine⟨I.xs.length-(k+1),by omega,k+1,ι7,σ7i,h7,σ7,H7,N7.pins,n3.trans nn,T.keep _ _ _ st5 λ b hb o e=>(N7.inv.pin (b,o) (Z4 _ (Z4 _ (XN hb e)))).1,λ b hb=>?_,rfl,hlt,K7.mono nn⟩
       obtain⟨o,e,d⟩:=T.obj _ _ st5 b hb
       exact(N7.inv.pin (b,o) (Z4 _ (Z4 _ (XN hb e)))).2.1
     cases eb:mb σg hgg with
     | next σ7i h7 =>
      rw[eb] at K3
      exact λ s7 σ7 H7 ι7 N7 n7=>again N7 n7 K3
     | cont σ7i h7 =>
      rw[eb] at K3
      exact λ s7 σ7 H7 ι7 N7 n7=>again N7 n7 K3
     | brk σ7i h7 =>
      rw[eb] at K3
      exact λ s7 σ7 H7 ι7 N7 n7=>K3 s7 σ7 H7 ι7 N7.pins ((n5.trans n6).trans n7)
     | ret v h7 =>
      rw[eb] at K3
      exact λ u s7 σ7i σ7 H7 ι7 N7 n7 r=>K3 u s7 σ7i σ7 H7 ι7 N7.pins ((n5.trans n6).trans n7) r
     | exc n σ7i h7 =>
      rw[eb] at K3
      dsimp only at K3
      cases hj:h7[n]? with
      | none=>rw[hj] at K3;exact Zf K3
      | some ob =>
       cases ob with
       | exc c fs =>
        rw[hj] at K3
        intro pl a s7 σ7 H7 ι7 N7 n7 q s8 fl
        obtain⟨C,tv,d,fe,hC,ha,ht⟩:=N7.rel.get hj q
        have back:∀h8,Noted X.env.locals (frs X.stack) a s7.heap h8->Ze0 (Z1 X.prog X.w) X.A X.env E (.ref a) { s7 with heap:=h8 }:=λ h8 n8 =>
         Jhd hf n8 λ h9 n9=>K3 (Qz fp s5.heap++pl) a s7 σ7 H7 ι7 (by rw[<- ZF];exact N7) ((n5.trans n6).trans n7) q _ (.inr ⟨h9,rfl,n9⟩)
        rcases fl with rfl|⟨h8,rfl,n8⟩
        ·exact Jh1 N7.inv hst hf ha ht back
        ·exact Jdg hf n8 (back h8 n8)
       | _=>rw[hj] at K3;exact Zf K3
     | stuck=>rw[eb] at K3;exact Zf K3
    | _=>rw[eg] at K3;exact Zf K3
   ·exact Zf K3
  ·have hke:I.xs.drop k=[]:=ZcD (by omega)
   rw[hke] at K3
   unfold JU at K3
   split at K3
   ·rename_i hck
    have stop:=OK.stop k hk H3 ιk n3 N3.rel hck (by omega)
    refine nof (thn (T.done X rfl rfl rfl hc k pj s3 σ3 H3 (λ _ _=>False) N3.inv (stat fr3) st3 stop) λ r s4 ⟨hr,I4⟩=>?_)
    subst hr
    exact ZbQ (K3 s4 σ3 H3 ιk ⟨I4,N3.rel,N3.st⟩ .refl)
   ·exact Zf K3
noncomputable def itOf:IV->IH->Res ItI
 | .ref i,h=>match h[i]? with
  | some (.lst xs)=>.ok ⟨xs,λ h'=>h'[i]?=Za (.lst xs)⟩ h
  | _=>.stuck
 | .rol xs,h=>.ok ⟨xs,λ _=>True⟩ h
 | .tup xs,h=>.ok ⟨xs,λ _=>True⟩ h
 | _,_=>.stuck
def iVal (e:E1):I1:=λ σ h=>(e σ h).bind itOf
variable {tg:Expr}
theorem Jtw {a:Zi}{i:Nat}{xs:List IV}{ι:List Zi}{H₀:Hp}(ha:ι[i]?=Za a):ItOk ce X.K ι H₀ (Itl X.K a) ⟨xs,λ h'=>h'[i]?=Za (.lst xs)⟩:=by
 refine⟨λ k x h H ι' hp R hck hx=>?_,λ k h H ι' hp R hck hx=>?_⟩
 ·obtain⟨vs,e1,r1⟩:=R.get hck (hp.at ha)
  obtain⟨v,hv,qv⟩:=r1.get hx
  refine⟨⟨vs,v,SqL.of e1,hv⟩,λ y H' hy=>?_⟩
  obtain⟨rfl,hy⟩:=hy
  have:=hy vs (SqL.of e1)
  rw[hv] at this
  cases this
  exact⟨R,.refl,qv⟩
 ·obtain⟨vs,e1,r1⟩:=R.get hck (hp.at ha)
  exact⟨vs,SqL.of e1,by rw[r1.length];exact hx⟩
theorem Jyh {a:Zi}{xs:List IV}{vs:List V}{ι:List Zi}{H₀:Hp}(sa:SqR X.K H₀ a vs)(ra:RVs X.K ι H₀ xs vs):ItOk ce X.K ι H₀ (Itl X.K a) ⟨xs,λ _=>True⟩:=by
 refine⟨λ k x h H ι' hp R hck hx=>?_,λ k h H ι' hp R hck hx=>?_⟩
 ·obtain⟨v,hv,qv⟩:=ra.get hx
  have sq:=(hp.ext.sqR sa).sq
  refine⟨⟨vs,v,sq,hv⟩,λ y H' hy=>?_⟩
  obtain⟨rfl,hy⟩:=hy
  have:=hy vs sq
  rw[hv] at this
  cases this
  exact⟨R,.refl,RV.mono hp _ _ qv⟩
 ·exact⟨vs,(hp.ext.sqR sa).sq,by rw[ra.length];exact hx⟩
theorem Jyi {a:Zi}{xs:List IV}{vs:List V}{ι:List Zi}{H₀:Hp}(sa:SqT X.K H₀ a vs)(ra:RVs X.K ι H₀ xs vs):ItOk ce X.K ι H₀ (Itt X.K a) ⟨xs,λ _=>True⟩:=by
 refine⟨λ k x h H ι' hp R hck hx=>?_,λ k h H ι' hp R hck hx=>?_⟩
 ·obtain⟨v,hv,qv⟩:=ra.get hx
  have sq:=hp.ext.sqT sa
  refine⟨⟨vs,v,sq,hv⟩,λ y H' hy=>?_⟩
  obtain⟨rfl,hy⟩:=hy
  have:=hy vs sq
  rw[hv] at this
  cases this
  exact⟨R,.refl,RV.mono hp _ _ qv⟩
 ·exact⟨vs,hp.ext.sqT sa,by rw[ra.length];exact hx⟩
theorem Jot {l:Expr}{ml:E1}(hl:PEi ce X l ml):PIi ce X tg l (iVal ml):=by
 intro pj s σ H ι σi h Q E N K
 refine hl pj s σ H ι σi h _ E N ?_
 unfold iVal at K
 cases e0:ml σi h with
 | exc n h'=>rw[e0] at K;exact K
 | stuck=>rw[e0] at K;exact K
 | ok v h' =>
  rw[e0] at K
  intro u s1 H1 ι1 N1 n1 r1
  obtain⟨w,rw',q⟩:=r1
  have Zeb:∀b∈[s1.heap.objs.size],FpOk X pj H1 b:=λ b hb=>by
   have e:b=s1.heap.objs.size:=by simpa using hb
   subst e
   exact N1.inv.fpOk (Zr _) (N1.inv.hok.fresh (Zr _))
  cases v with
  | ref i =>
   obtain⟨a,e1,ha⟩:=q
   subst e1
   cases rw'
   cases hi:h'[i]? with
   | none=>simp only[Res.bind,itOf,hi] at K
   | some o =>
    cases o with
    | lst xs =>
     simp only[Res.bind,itOf,hi] at K
     obtain⟨vs,e1,r1⟩:=N1.at hi ha
     obtain⟨its,rv,p,hz⟩:=N1.inv.list (SqL.of e1)
     refine ZaV p.isList (K _ _ H1 ι1 ⟨N1.inv.kept (t':=s1.toks) λ b o e=>Zg _ e,N1.rel,N1.st⟩ n1 ?_)
     exact⟨s1.heap.objs.size,[s1.heap.objs.size],_,Itl X.K a,rfl,XW a _,⟨_,Zy _ rfl,rfl,rfl⟩,Zeb,Jtw ha⟩
    | _=>simp only[Res.bind,itOf,hi] at K
  | rol xs =>
   obtain⟨a,vs,e1,sa,ra⟩:=q
   subst e1
   cases rw'
   simp only[Res.bind,itOf] at K
   obtain⟨its,rv,p,hz⟩:=N1.inv.list sa.sq
   refine ZaV p.isList (K _ _ H1 ι1 ⟨N1.inv.kept (t':=s1.toks) λ b o e=>Zg _ e,N1.rel,N1.st⟩ n1 ?_)
   exact⟨s1.heap.objs.size,[s1.heap.objs.size],_,Itl X.K a,rfl,XW a _,⟨_,Zy _ rfl,rfl,rfl⟩,Zeb,Jyh sa ra⟩
  | tup xs =>
   obtain⟨a,vs,e1,sa,ra⟩:=q
   subst e1
   cases rw'
   simp only[Res.bind,itOf] at K
   obtain⟨its,rv,p,hz⟩:=N1.inv.tuple sa
   refine wpAny_pyIter_tuple (show s1.heap.IsTuple a its.toArray from p) (K _ _ H1 ι1 ⟨N1.inv.kept (t':=s1.toks) λ b o e=>Zg _ e,N1.rel,N1.st⟩ n1 ?_)
   exact⟨s1.heap.objs.size,[s1.heap.objs.size],_,Itt X.K a,rfl,Jne a _,⟨_,Zy _ rfl,rfl,rfl⟩,Zeb,Jyi sa ra⟩
  | _=>simp only[Res.bind,itOf] at K
noncomputable def rngI (lo hi:Int):List IV:=(Z8 (hi-lo).toNat).map λ k=>.int (lo+(k:Nat))
def JD:List IV->IH->Res ItI
 | [.int j],h=>if -(2^62)<=j/\j<2^62 then .ok ⟨rngI 0 j,λ _=>True⟩ h else .stuck
 | _,_=>.stuck
def Vw:List IV->IH->Res ItI
 | [.int i,.int j],h=>if -(2^62)<=i/\i<2^62/\ -(2^62)<=j/\j<2^62 then .ok ⟨rngI i j,λ _=>True⟩ h else .stuck
 | _,_=>.stuck
theorem Jje {vs:List IV}{h:IH}(hv:¬ ∃i j,vs=[.int i,.int j]):Vw vs h=.stuck:=by
 unfold Vw
 split
 ·exact absurd ⟨_,_,rfl⟩ hv
 ·rfl
def iRg (f:List IV->IH->Res ItI)(a:A1):I1:=λ σ h=>(a σ h).bind f
theorem Jzh {lo hi:Int}{ι:List Zi}{H₀:Hp}:ItOk ce X.K ι H₀ (Itr lo (hi-lo).toNat) ⟨rngI lo hi,λ _=>True⟩:=by
 refine⟨λ k x h H ι' hp R hck hx=>?_,λ k h H ι' hp R hck hx=>?_⟩
 ·have hk:k<(hi-lo).toNat:=by
   have:=(Zn.mp hx).1
   simpa [rngI] using this
  refine⟨hk,λ y H' hy=>?_⟩
  obtain⟨rfl,rfl⟩:=hy
  simp only[rngI,Z0,List.getElem?_range hk] at hx
  cases hx
  exact⟨R,.refl,rfl⟩
 ·have:(rngI lo hi).length=(hi-lo).toNat:=by simp[rngI]
  show(hi-lo).toNat<=k
  rw[<- this]
  exact hx
theorem Jjm {pj:PnT}{σ:L2.St}{H:Hp}{ι:List Zi}{σi:ISt}{h:IH}{s:Zk}{Q:QvT}{E:QvT}{lo hi:Int}{t u v:Tok}{tk:Nat}(N:Now ce X pj ι σi h σ H s)
  (h1: -(2^62)<=lo)(h2:lo<2^62)(h3: -(2^62)<=hi)(h4:hi<2^62)
  (K:∀itv s' H' ι',Now ce X pj ι' σi h σ H' s'->Nxt ι H ι' H'->RIt ce X tg pj ι' ⟨rngI lo hi,λ _=>True⟩ itv s' H'->Q itv s') :
  Zq (Z1 X.prog X.w) X.A (Zey (.ref s.heap.objs.size)) Q E { s with heap:=s.heap.push { cls:=.type "range",data:=.fields #[.int lo t,.int hi u,.int 1 v] },toks:=tk }:=by
 have:=Jsq (X:=X) (tg:=tg) (E:=E) (R:=λ J H'=>J=Itr lo (hi-lo).toNat/\H'=H) (t:=t) (u:=u) (v:=v) (tk:=tk) N.inv h1 h2 h3 h4 ⟨rfl,rfl⟩
 refine ZP this (λ itv s' hq=>?_) λ _ _ z=>z
 obtain⟨it,fp,tn,J,H',e,I',T,st,f,rfl,rfl⟩:=hq
 exact K itv s' _ ι ⟨I',N.rel,N.st⟩ .refl ⟨it,fp,tn,_,e,T,st,f,Jzh⟩
theorem Jrw {a:Expr}{ma:A1}{p pos:Pos}(hg:Gl X "range")(hm:X.mg "range"=Zb)(ha:PAi ce X [a] ma)(hs:Z9 [a] X.env=[(Zj,ZaJ a X.env)]:=by rfl):PIi ce X tg (.Call (.Name "range" p) [a] [] pos) (iRg JD ma):=by
 intro pj s σ H ι σi h Q E N K
 refine Call_ (Qg N.inv hg hm boot_range (Zaa ?_ hs rfl))
 refine ha pos pj s σ H ι σi h _ E N ?_
 unfold iRg at K
 cases e0:ma σi h with
 | exc n h'=>rw[e0] at K;exact K
 | stuck=>rw[e0] at K;exact K
 | ok vs h' =>
  rw[e0] at K
  intro us s1 H1 ι1 N1 n1 r1
  obtain⟨xs,rv,qs⟩:=r1
  match vs,K with
  | [.int j],K =>
   obtain⟨w,r,e1,q,q2⟩:=qs
   have e2:r=[]:=q2
   subst e1 e2
   have e3:w=.int j:=q
   subst e3
   cases rv with
   | cons r rr =>
    cases rr
    obtain⟨t,rfl⟩:=r
    simp only[Res.bind,JD] at K
    by_cases hb: -(2^62)<=j/\j<2^62
    ·rw[if_pos hb] at K
     exact call_range_1 (Jjm N1 (by omega) (by omega) hb.1 hb.2 λ itv s' H' ι' N' n' R=>K itv s' H' ι' N' (n1.trans n') R)
    ·rw[if_neg hb] at K
     exact K.elim
  | [],K=>exact Zf K
  | .non::_,K=>exact Zf K
  | .bl _::_,K=>exact Zf K
  | .str _::_,K=>exact Zf K
  | .tup _::_,K=>exact Zf K
  | .rol _::_,K=>exact Zf K
  | .ref _::_,K=>exact Zf K
  | .int _::_::_,K=>exact Zf K
theorem Jrx {a b:Expr}{ma:A1}{p pos:Pos}(hg:Gl X "range")(hm:X.mg "range"=Zb)(ha:PAi ce X [a,b] ma)(hs:Z9 [a,b] X.env=[(Zj,ZaJ a X.env),(Zj,ZaJ b X.env)]:=by rfl)(hs2:Z9 [b] X.env=[(Zj,ZaJ b X.env)]:=by rfl) :
  PIi ce X tg (.Call (.Name "range" p) [a,b] [] pos) (iRg Vw ma):=by
 intro pj s σ H ι σi h Q E N K
 refine Call_ (Qg N.inv hg hm boot_range (Zaa ?_ (by rw[hs,hs2]) (by rw[hs2];rfl)))
 refine ha pos pj s σ H ι σi h _ E N ?_
 unfold iRg at K
 cases e0:ma σi h with
 | exc n h'=>rw[e0] at K;exact K
 | stuck=>rw[e0] at K;exact K
 | ok vs h' =>
  rw[e0] at K
  intro us s1 H1 ι1 N1 n1 r1
  obtain⟨xs,rv,qs⟩:=r1
  by_cases hv:∃i j,vs=[.int i,.int j]
  ·obtain⟨i,j,rfl⟩:=hv
   obtain⟨w,r,e1,q,w',r',e1',q',q2⟩:=qs
   have e2:r'=[]:=q2
   subst e1 e1' e2
   have e3:w=.int i:=q
   have e4:w'=.int j:=q'
   subst e3 e4
   cases rv with
   | cons r rr =>
    cases rr with
    | cons r' rr =>
     cases rr
     obtain⟨t,rfl⟩:=r
     obtain⟨t',rfl⟩:=r'
     simp only[Res.bind,Vw] at K
     by_cases hb: -(2^62)<=i/\i<2^62/\ -(2^62)<=j/\j<2^62
     ·rw[if_pos hb] at K
      exact call_range_2 (Jjm N1 hb.1 hb.2.1 hb.2.2.1 hb.2.2.2 λ itv s' H' ι' N' n' R=>K itv s' H' ι' N' (n1.trans n') R)
     ·rw[if_neg hb] at K
      exact K.elim
  ·simp only[Res.bind,Jje hv] at K
end
end L3
namespace L3
open PySem PySem.Spec PySem.Calls PyProof.Rows L2
section
variable {prog:ZA}{w:ZM}{A:ZG}{E:QvT}{s:Zk}{K:W.Frag}{x D:Zi}{ox:Obj}
open PySem.W PySem.Builtin PySem.Builtin.ObjectAttr PySem.Builtin.Getset_descriptor in
theorem Jz9 {tp:Zd}{R:Zd8->Zk->Prop}(X:K.In s.heap)(hx:s.heap.get? x=Za ox)(hcl:ox.cls=.ref D)(hm:mroIn K D (.type "object")=Za Ze)(k:R (.ok (.ret (.ref D))) s) :
  ZbW (Z1 prog w) A (.call (.builtin "getset_descriptor.__get__") ⟨[.builtin "object.__class__",.ref x,tp],[]⟩) R s:=by
 obtain⟨hh,g,d,t,os⟩:=s
 have L0:Looks (Z1 prog w) hh (ZdT (.ref x)) (.ref D):=hcl▸(Looks.ld hx).andThen .now
 have L5:=looks_mroIn (M:=Z1 prog w) X hm
 have sl:=KF.slot_gs
 refine Zbi sl.plain KF.entry_gs (sl.check _ _ _ _ _ _ _ _ KF.type_class (KF.args_gs _ _ _) ?_)
 unfold Zdl.«getset_descriptor.__get__»
 unfold descrGet
 rw[dga_obj]
 apply Zh
 apply Zw
 unfold descrGetter descrCheckInstance
 unfold descrNameAndClass Ze1
 simp only[KF.owner_class]
 repeat lk
 have quiet:=Zc1 (id:="object.__class__") ⟨[.ref x],[]⟩ (by decide +kernel)
 refine⟨quiet,ZaA KF.entry_class ?_⟩
 unfold Zdl.«object.__class__»
 unfold shownTypeOf
 repeat lk
 exact k
theorem Jtf {tk:Tok}{Q:Fin->Zk->Prop}(X:K.In s.heap)(hx:s.heap.get? x=Za ox)(hcl:ox.cls=.ref D)(hc:W.findIn K (.ref D) "__class__"=Za (Za (.builtin "object.__class__")))(hm:W.mroIn K D (.type "object")=Za Ze)
  (hq:Q (.done (.ret (.ref D))) s):Zq (Z1 prog w) A (Zdl.«object.__getattribute__» ⟨[.ref x,.str "__class__" tk],[]⟩) Q E s:=by
 obtain⟨hh,g,d,t,os⟩:=s
 have L0:W.Looks (Z1 prog w) hh (ZdT (.ref x)) (.ref D):=hcl▸(W.Looks.ld hx).andThen .now
 have L2:=W.looks_findIn (M:=Z1 prog w) X hc
 have hT5:(⟨hh,g,d,t,os⟩:Zk).TypeIs (.builtin "object.__class__") "getset_descriptor":=F.typeOf_object_class
 have f5:=F.typeOf_object_class
 have f6:=F.slot_gs_get.lookup
 have f7:=F.slot_gs_set.lookup
 repeat (any_goals (first|assumption|with_reducible refine L0.at ?_|with_reducible refine L2.at ?_|wp_step))
 refine Jz9 (s:=⟨hh,g,d,t,os⟩) X hx hcl hm ?_
 repeat (any_goals (first|assumption|wp_step))
theorem Jmb {v:Zd}{Q:Unit->Zk->Prop}{M:Ze4}(X:K.In s.heap)(hx:s.heap.get? x=Za ox)(hcl:ox.cls=.ref D)(hb:W.mroIn K D (.type "BaseException")=Za Ze)(hq:Q () s):Zq M A (checkBuiltinCall "BaseException.__getattribute__" ⟨[.ref x,v],[]⟩) Q E s:=by
 obtain⟨hh,g,d,t,os⟩:=s
 have L0:W.Looks M hh (ZdT (.ref x)) (.ref D):=hcl▸(W.Looks.ld hx).andThen .now
 have L3:=W.looks_mroIn (M:=M) X hb
 have k1:builtinKind "BaseException.__getattribute__"=Za .slot:=by decide +kernel
 have k2:splitId "BaseException.__getattribute__"=Za ("BaseException","__getattribute__"):=by decide +kernel
 have k3:=F.args_bexc_ga (.ref x) v
 simp only[checkBuiltinCall,k1,k2]
 refine Zh ?_
 unfold Ze1
 repeat (first|with_reducible refine L0.at ?_|with_reducible refine L3.at ?_|wp_step)
 exact hq
theorem J10 {tk:Tok}{Q:QvT}(X:K.In s.heap)(hx:s.heap.get? x=Za ox)(hcl:ox.cls=.ref D)(hg:W.findIn K (.ref D) "__getattribute__"=Za (Za (.builtin "BaseException.__getattribute__")))(hb:W.mroIn K D (.type "BaseException")=Za Ze)(hn:W.findIn K (.ref D) "__getattr__"=Za Zb)
  (hc:W.findIn K (.ref D) "__class__"=Za (Za (.builtin "object.__class__")))(hm:W.mroIn K D (.type "object")=Za Ze)(hq:Q (.ref D) s):Zq (Z1 prog w) A (getAttrBy (.ref x) (.str "__class__" tk) Zj) Q E s:=by
 obtain⟨hh,g,d,t,os⟩:=s
 have L0:W.Looks (Z1 prog w) hh (ZdT (.ref x)) (.ref D):=hcl▸(W.Looks.ld hx).andThen .now
 have L1:=W.looks_findIn (M:=Z1 prog w) X hg
 have L4:=W.looks_findIn (M:=Z1 prog w) X hn
 have f3:=F.attr_ValueError.ga.bind (.ref x)
 have hx2:(Zbt "BaseException.__getattribute__"==Zbt "object.__getattribute__")=Zj:=by decide +kernel
 have hx1:(onTheHeap (Za4 D)&&Zbt "BaseException.__getattribute__"==Zbt "object.__getattribute__")=Zj:=by rw[hx2];rfl
 repeat (any_goals (first|assumption|with_reducible refine L0.at ?_|with_reducible refine L1.at ?_|with_reducible refine L4.at ?_|wp_step))
 refine Zbi F.attr_ValueError.ga.plain F.entry_bexc_ga (Jmb (s:=⟨hh,g,d,t,os⟩) X hx hcl hb (Jtf (s:=⟨hh,g,d,t,os⟩) X hx hcl hc hm ?_))
 repeat (any_goals (first|assumption|wp_step))
theorem Jxf {Q:Option Zd->Zk->Prop}(X:K.In s.heap)(hx:s.heap.get? x=Za ox)(hcl:ox.cls=.ref D)(hg:W.findIn K (.ref D) "__getattribute__"=Za (Za (.builtin "BaseException.__getattribute__")))(hb:W.mroIn K D (.type "BaseException")=Za Ze)(hn:W.findIn K (.ref D) "__getattr__"=Za Zb)
  (hc:W.findIn K (.ref D) "__class__"=Za (Za (.builtin "object.__class__")))(hm:W.mroIn K D (.type "object")=Za Ze)(hq:Q (Za (.ref D)) { s with toks:=s.toks+1 }):Zq (Z1 prog w) A (getAttr? (.ref x) "__class__") Q E s:=by
 obtain⟨hh,g,d,t,os⟩:=s
 unfold getAttr? getAttrBy?
 refine Zh (wpAny_mkText (Zh (wpAny_attempt (J10 (s:=⟨hh,g,d,t+1,os⟩) X hx hcl hg hb hn hc hm ?_))))
 exact Zw hq
end
structure ExI (K:W.Frag)(C:Zi):Prop where
 ga:W.findIn K (.ref C) "__getattribute__"=Za (Za (.builtin "BaseException.__getattribute__"))
 mb:W.mroIn K C (.type "BaseException")=Za Ze
 gn:W.findIn K (.ref C) "__getattr__"=Za Zb
 ca:W.findIn K (.ref C) "__class__"=Za (Za (.builtin "object.__class__"))
 mo:W.mroIn K C (.type "object")=Za Ze
 hd:W.hasDictIn K C=Ze
theorem ExI.at_ {K:W.Frag}{C:Zi}(e:ExI K C):∃c d cd sl,K.lookup C=Za ⟨c,d,.cls cd,sl⟩:=by
 obtain⟨cd,hc,_⟩:=W.any_some e.hd
 unfold W.clsIn at hc
 split at hc
 case h_2=>cases hc
 rename_i c d cd' sl ho
 exact⟨c,d,cd',sl,ho⟩
theorem Jlh {K:W.Frag}{x D:Zi}(e:ExI K D):W.KitX K (.ref x) (.ref D) (λ h=>∃ox,h.get? x=Za ox/\ox.cls=.ref D) where
 ty:=λ _ _ _ ⟨ox,hx,hc⟩=>hc▸(W.Looks.ld hx).andThen .now
 it:=λ _ _ X _=>by
  obtain⟨c,d,cd,sl,ho⟩:=e.at_
  intro A' Q' E' s' kp q
  unfold isType
  unfold loadHead
  exact Zh (Zei (kp _ _ (X D _ ho)) (Zw q))
 ne:=λ h tp dd its n sl X htp=>by
  obtain⟨c,d,cd,sl',ho⟩:=e.at_
  rw[ZaX]
  intro q
  cases (Value.ref.inj (beq_iff_eq.mp q))
  have z:=(X D _ ho).symm.trans htp
  cases z
 ca:=λ X ⟨ox,hx,hc⟩ k=>Jxf X hx hc e.ga e.mb e.gn e.ca e.mo k
end L3
namespace L3
open PySem PySem.Spec PyProof.Rows L2
def V2 (n:Nat)(vs:List IV):ISt:=vs.map Za++ZN (n-vs.length) Zb
noncomputable def SRes.fin (r:SRes):Res IV:=match r with
 | .next _ h'=>.ok .non h'
 | .ret v h'=>.ok v h'
 | .exc n _ h'=>(match h'[n]? with
  | some (.exc _ _)=>.exc n h'
  | _=>.stuck)
 | _=>.stuck
noncomputable def fnI (n:Nat)(m:S1):List IV->IH->Res IV:=λ vs h=>(m (V2 n vs) h).fin
def spI (ce:CeT)(K:W.Frag)(ps:List Str)(f:List IV->IH->Res IV):Sp:=λ vs H Q E =>
 vs.length=ps.length/\∃ι h ivs,Rel ce K ι h H/\RVs K ι H ivs vs /\
  match f ivs h with
  | .ok v h'=>∀x H' ι',Rel ce K ι' h' H'->Nxt ι H ι' H'->RV K ι' H' v x->Q x H'
  | .exc n h'=>∀a H' ι',Rel ce K ι' h' H'->Nxt ι H ι' H'->ι'[n]?=Za a->E (.ref a) Zb H'
  | .stuck=>False
theorem RVs.start {K:W.Frag}{ι:List Zi}{H:Hp}{N:List Str}{ivs:List IV}{vs:List V}(r:RVs K ι H ivs vs):RSt K ι H (V2 N.length ivs) (L2.start N vs):=by
 have hl:=r.length
 refine⟨by simp[V2,L2.start,hl],λ j v e=>?_⟩
 unfold V2 at e
 unfold L2.start
 by_cases hj:j<ivs.length
 ·rw[Z7 (by simpa using hj),Z0] at e
  rw[Z7 (by simp;omega),Z0]
  cases e1:ivs[j]? with
  | none=>rw[e1] at e;cases e
  | some w =>
   rw[e1] at e
   cases e
   obtain⟨u,hu,q⟩:=r.get e1
   exact⟨u,by rw[hu];rfl,q⟩
 ·rw[Zu (by simpa using hj),ZbD] at e
  split at e<;>cases e
theorem Jia {α:Type}:∀{l:List α}{i:Nat}{x:α},l[i]?=Za x->l.set i x=l
 | [],_,_,e=>by simp at e
 | a::l,0,x,e=>by cases e;rfl
 | a::l,i+1,x,e=>by
  show a::l.set i x=a::l
  rw[Jia (l:=l) e]
theorem QF {ce:CeT}{K:W.Frag}{ι:List Zi}{h:IH}{H:Hp}{i:Nat}{o:IX}{a:Zi}(R:Rel ce K ι h H)(e:h[i]?=Za o)(q:ι[i]?=Za a):RO ce K ι H a o:=by
 obtain⟨b,e1,r⟩:=R.at_ i o e
 rw[q] at e1
 cases e1
 exact r
structure FunD (K:W.Frag)(x qual:Str)(st:Zbv)(f:Zi)(fd:Zam)(dV:Zd):Prop where
 ex:∃(oc:Zd)(od:Option Zi)(kV doc pm:Zd)(an:Option Zi)(cdv ct:Zd)(osl:Array (Option Zd)),
  fd=W.fnOf x qual (Qf st) (JG st) (Jx st) dV kV doc pm an cdv ct/\K.lookup f=Za ⟨oc,od,.func fd,osl⟩/\W.codeIn K cdv qual=Ze
 kp:W.keepIn K (.ref f)=Ze
section
variable {P:ZA}{w:ZM}{K:W.Frag}{mg:Str->Option Zd}{base:ZT}{ce:CeT}
theorem FunD.fn {x qual:Str}{st:Zbv}{f:Zi}{fd:Zam}{dV:Zd}{N ps:List Str}{k n:Nat}{m:S1}(F:FunD K x qual st f fd dV)(S:FnScope N ps (Jx st))
  (hbody:∀(cdv:Zd)(A:ZG)(outer:List Env)(s:Zk)(H:Hp)(E:XK),W.codeIn K cdv qual=Ze->Room k (A.deeper (ZcK qual (Jx st) s.heap.objs.size f cdv))->PS2 ce (cxOf (CXI P w) P w K mg base N qual (Jx st) f cdv A outer s H E).nox (JG st) m)(hn:N.length=n:=by rfl) :
  FnOk P w K mg base (CXI P w) (k+1) f fd ps (spI ce K ps (fnI n m)):=by
 subst hn
 obtain⟨oc,od,kV,doc,pm,an,cdv,ct,osl,rfl,lk,hcd⟩:=F.ex
 refine Jxu lk hcd S (λ vs H Q E h=>h.1) λ A outer s H vs Q E hr hsp=>?_
 obtain⟨hl,ι,h,ivs,R,rv,hk⟩:=hsp
 refine⟨λ D σ H=>∃ι σi h,Rel ce K ι h H/\RSt K ι H σi σ/\match m σi h with
  | .next σi' h'=>∀σ' H' ι',Rel ce K ι' h' H'->RSt K ι' H' σi' σ'->Nxt ι H ι' H'->D.nx σ' H'
  | .ret v h'=>∀x H' ι',Rel ce K ι' h' H'->Nxt ι H ι' H'->RV K ι' H' v x->D.rt x H'
  | .exc n _ h'=>(∃c fs,h'[n]?=Za (.exc c fs))/\∀a H' ι',Rel ce K ι' h' H'->Nxt ι H ι' H'->ι'[n]?=Za a->E (.ref a) Zb H'
  | _=>False,λ pj s' σ' H' D I ht=>?_,ι,V2 N.length ivs,h,R,rv.start,?_⟩
 ·obtain⟨ι,σi,h,R,rs,hm⟩:=ht
  refine ZP (hbody cdv A outer s H E hcd hr pj s' σ' H' ι σi h (SP _ pj D) _ ⟨I.wish _,R,rs⟩ ?_) (λ _ _ z=>z) (λ _ _ z=>z)
  cases e:m σi h with
  | next σ2 h2 =>
   rw[e] at hm
   exact λ s3 σ3 H3 ι3 N3 n3=>⟨σ3,H3,N3.inv.unwish,hm σ3 H3 ι3 N3.rel N3.st n3⟩
  | ret v h2 =>
   rw[e] at hm
   exact λ u s3 σ3i σ3 H3 ι3 N3 n3 ⟨z,rz,q⟩=>⟨z,σ3,H3,N3.inv.unwish,rz,hm z H3 ι3 N3.rel n3 q⟩
  | exc j σ2 h2 =>
   rw[e] at hm
   obtain⟨⟨c,fs,hj⟩,hm⟩:=hm
   intro pl a s3 σ3 H3 ι3 N3 n3 hi s4 fl
   have I3:=N3.inv.unwish
   obtain⟨C,tv,d,fe,hC,ha,ht⟩:=QF N3.rel hj hi
   refine Jo6 I3 fl rfl rfl ha ht λ T oT h' p=>?_
   have nl:s.heap.get? s.heap.objs.size=Zb:=Zca (Zr _)
   obtain⟨R4,n4⟩:=N3.rel.grow (o:=.frz oT (.own 0)) p.new
   have ha4:upd H3 T (.frz oT (.own 0)) a=Za (ExF a C tv d):=by rw[Jo (ZW p.ne)];exact ha
   obtain⟨R5,n5⟩:=R4.write hi ha4 (by rw[ha4];trivial) (o:=ExF a C (.ref T) d) (io:=.exc c fs) ⟨C,.ref T,d,fe.mono p.un.frzs,hC,Jy,.inr ⟨T,oT,_,rfl,by rw[Jo p.ne,Jy],p.fld.choose_spec⟩⟩
   rw[Jia hj] at R5
   exact⟨_,I3.os,I3.bare,Un.tail I3.base p.un nl,p.hok,hm a _ ι3 R5 ((n3.trans n4).trans n5) hi⟩
  | _=>rw[e] at hm;exact hm.elim
 ·unfold fnI SRes.fin at hk
  cases e:m (V2 N.length ivs) h with
  | next σ2 h2 =>
   rw[e] at hk
   exact λ σ3 H3 ι3 R3 _ n3=>hk .non H3 ι3 R3 n3 rfl
  | ret v h2 =>
   rw[e] at hk
   exact hk
  | exc j σ2 h2 =>
   rw[e] at hk
   dsimp only at hk
   cases q:h2[j]? with
   | none=>rw[q] at hk;exact hk.elim
   | some o =>
    cases o with
    | exc c fs=>rw[q] at hk;exact⟨⟨c,fs,q⟩,hk⟩
    | _=>rw[q] at hk;exact hk.elim
  | _=>rw[e] at hk;exact hk.elim
end
noncomputable def Res.nx {α:Type}:Res α->Res α
 | .ok a h=>.ok a h
 | _=>.stuck
def Jn (f:List IV->IH->Res IV)(dvs:List IV)(a:A1):E1:=λ σ h=>(a σ h).bind λ vs h1=>f (vs++dvs) h1
def Qn (c:Str)(f:List IV->IH->Res IV)(dvs:List IV)(a:A1):E1:=λ σ h=>(a σ h).bind λ vs h1=>(f (.ref h1.length::(vs++dvs)) (h1++[.ins c []])).bind λ r h2=>match r with
 | .non=>.ok (.ref h1.length) h2
 | _=>.stuck
def Jrg (m:Str)(disp:Str->Option ((List IV->IH->Res IV)×List IV))(o:E1)(a:A1):E1:=λ σ h=>(o σ h).bind λ v h1=>match v with
 | .ref i=>(match h1[i]? with
  | some (.ins c fs)=>(match disp c,fs.lookup m with
   | some (f,dvs),Zb=>(a σ h1).bind λ vs h2=>f (.ref i::(vs++dvs)) h2
   | _,_=>.stuck)
  | _=>.stuck)
 | _=>.stuck
section
variable {ce:CeT}{X:Cx}{k:Nat}{fa C:Zi}{fd:Zam}{ps:List Str}{f:List IV->IH->Res IV}{dvs:List IV}{ds:List Zd}{x m:Str}{p pos apos:Pos}{e o:Expr}{es:List Expr}{mo:E1}{ma:A1}
theorem RUs.vals {K:W.Frag}{ι:List Zi}{H:Hp}{xs:List IV}{us:List Zd}(r:RUs K ι H xs us):∃vs,Vals vs us/\RVs K ι H xs vs:=r
theorem Jh4 {pj:PnT}{σ:L2.St}{H:Hp}{ι:List Zi}{σi:ISt}{h:IH}{s:Zk}{Q:QvT}{E:QvT}{us:List Zd}{xs:List IV}(F:FnOk X.prog X.w X.K X.mg X.base (CXI X.prog X.w) k fa fd ps (spI ce X.K ps f))(hr:Room k X.A)(hb:JL X.K fd ps ds)
  (hd:∃vs,Vals vs ds/\∀ι H,RVs X.K ι H dvs vs)(hlen:us.length+ds.length=ps.length)(N:Now ce X pj ι σi h σ H s)(r:RUs X.K ι H xs us)(K:Kont ce X RU pj ι σi σ H (f (xs++dvs) h) Q E):Zq (Z1 X.prog X.w) X.A (call (.ref fa) us) Q E s:=by
 obtain⟨vs,rv,q⟩:=r
 obtain⟨dv,rd,qd⟩:=hd
 have hl1:=rv.length
 have hl2:=rd.length
 refine ZP (Jwa (Q:=λ z H'=>∀u s',Inv X pj σ H' s'->RelV z u->Q u s') (E:=λ v _ H'=>∀s',Inv X pj σ H' s'->E v s') F hr hb rd N.inv rv ⟨by rw[ZE];omega,ι,h,xs++dvs,N.rel,q.append (qd ι H),?_⟩ λ _ s' _ I' z=>z s' I')
  (λ u s' ⟨z,H',I',r',k'⟩=>k' u s' I' r') λ _ _ z=>z
 cases e:f (xs++dvs) h with
 | ok v h' =>
  rw[e] at K
  exact λ z H' ι' R' n' qz u s' I' ru=>K u s' H' ι' ⟨I',R',N.st.mono n'⟩ n' ⟨z,ru,qz⟩
 | exc n h' =>
  rw[e] at K
  exact λ a H' ι' R' n' hi s' I'=>K [] a s' H' ι' ⟨by simpa using I',R',N.st.mono n'⟩ n' hi
 | stuck=>rw[e] at K;exact K
theorem Jx0 (F:FnOk X.prog X.w X.K X.mg X.base (CXI X.prog X.w) k fa fd ps (spI ce X.K ps f))(hr:Room k X.A)(hg:Gl X x)(hm:X.mg x=Za (.ref fa))(hk:W.keepIn X.K (.ref fa)=Ze)(hb:JL X.K fd ps ds)(hd:∃vs,Vals vs ds/\∀ι H,RVs X.K ι H dvs vs)
  (ha:PAi ce X (e::es) ma)(hlen:∀σ h xs h',ma σ h=.ok xs h'->xs.length+ds.length=ps.length)(hdb:(x==("__debug__":Str))=Zj:=by decide)(he:Z9 (e::es) X.env=(Zj,ZaJ e X.env)::Z9 es X.env:=by rfl)(hpl:(ZaU pos (Z9 es X.env)).any (·.1)=Zj:=by rfl) :
  PEi ce X (.Call (.Name x p) (e::es) [] pos) (Jn f dvs ma):=by
 intro pj s σ H ι σi h Q E N K
 refine ZQ (QP N.inv hg hm ?_ hdb)
 refine W.callWith_K (h₀:=X.base) N.inv.ok.mod.kin hk ?_ he hpl
 have K':=K
 unfold Jn at K'
 refine ha pos pj s σ H ι σi h _ E N ?_
 cases e0:ma σi h with
 | exc n h'=>rw[e0] at K';exact K'
 | stuck=>rw[e0] at K';exact K'
 | ok xs h' =>
  rw[e0] at K'
  intro us s1 H1 ι1 N1 n1 r1
  have hl:xs.length=us.length:=by
   obtain⟨vs,rv,q⟩:=r1
   rw[<- rv.length,q.length]
  exact⟨N1.inv.kIn,Jh4 (us:=us) F hr hb hd (by have:=hlen σi h xs h' e0;omega) N1 r1 (Kont.mono (r:=(f (xs++dvs) h')) K' n1)⟩
theorem Jvb (F:FnOk X.prog X.w X.K X.mg X.base (CXI X.prog X.w) k fa fd ps (spI ce X.K ps f))(hr:Room k X.A)(hg:Gl X x)(hm:X.mg x=Za (.ref fa))(hk:W.keepIn X.K (.ref fa)=Ze)(hb:JL X.K fd ps ds)(hd:∃vs,Vals vs ds/\∀ι H,RVs X.K ι H dvs vs)
  (hlen:ds.length=ps.length)(hdb:(x==("__debug__":Str))=Zj:=by decide):PEi ce X (.Call (.Name x p) [] [] pos) (Jn f dvs Jd):=by
 intro pj s σ H ι σi h Q E N K
 refine ZQ (QP N.inv hg hm ?_ hdb)
 exact W.callWith_K0 N.inv.kIn hk (Jh4 (xs:=[]) F hr hb hd (by simpa using hlen) N .nil K)
theorem Jjo {c:Str}{pj:PnT}{σ:L2.St}{H:Hp}{ι:List Zi}{σi:ISt}{h:IH}{s:Zk}{Q:QvT}{E:QvT}{us:List Zd}{xs:List IV}(M:Mk X.K C fa)(F:FnOk X.prog X.w X.K X.mg X.base (CXI X.prog X.w) k fa fd ps (spI ce X.K ps f))(hC:ce c=Za C)(hr:Room (k+1) X.A)(hb:JL X.K fd ps ds)
  (hd:∃vs,Vals vs ds/\∀ι H,RVs X.K ι H dvs vs)(hlen:us.length+ds.length+1=ps.length)(N:Now ce X pj ι σi h σ H s)(r:RUs X.K ι H xs us)
  (K:Kont ce X RU pj ι σi σ H ((f (.ref h.length::(xs++dvs)) (h++[.ins c []])).bind λ r h2=>match r with|.non=>.ok (.ref h.length) h2|_=>.stuck) Q E):Zq (Z1 X.prog X.w) X.A (call (.ref C) us) Q E s:=by
 obtain⟨vs,rv,q⟩:=r
 obtain⟨dv,rd,qd⟩:=hd
 have hl1:=rv.length
 have hl2:=rd.length
 refine ZP (Jpm (Q:=λ z H'=>∀u s',Inv X pj σ H' s'->RelV z u->Q u s') (E:=λ v _ H'=>∀s',Inv X pj σ H' s'->E v s') M F hr hb rd N.inv rv (λ x dx hx hdx hne=>⟨by rw[ZC,ZE];omega,?_⟩) λ _ s' _ I' z=>z s' I')
  (λ u s' ⟨z,H',I',r',k'⟩=>k' u s' I' r') λ _ _ z=>z
 -- the new instance in the reading's heap
 obtain⟨R1,n1⟩:=N.rel.grow (o:=.own x) hdx
 have hx1:upd H dx (.own x) x=Zb:=by rw[Jo (ZW hne)];exact hx
 obtain⟨R2,n2⟩:=R1.alloc (o:=.ins C dx []) (io:=.ins c []) hx1 ⟨C,dx,[],hC,Jy,rfl⟩
 have n12:=n1.trans n2
 have hat:(ι++[x])[h.length]?=Za x:=by
  rw[<- N.rel.len,Zu (Zr _)]
  simp
 refine⟨ι++[x],h++[.ins c []],.ref h.length::(xs++dvs),R2,⟨_,_,rfl,⟨x,rfl,hat⟩,(RVs.mono n12 _ _ q).append (qd _ _)⟩,?_⟩
 cases e:f (.ref h.length::(xs++dvs)) (h++[.ins c []]) with
 | ok v h' =>
  rw[e] at K
  intro z H' ι' R' n' qz
  cases v with
  | non =>
   have ez:z=.non:=qz
   subst ez
   exact⟨rfl,λ u s' I' ru=>K u s' H' ι' ⟨I',R',N.st.mono (n12.trans n')⟩ (n12.trans n') ⟨.ref x,ru,x,rfl,n'.at hat⟩⟩
  | _=>exact Zf K
 | exc n h' =>
  rw[e] at K
  exact λ a H' ι' R' n' hi s' I'=>K [] a s' H' ι' ⟨by simpa using I',R',N.st.mono (n12.trans n')⟩ (n12.trans n') hi
 | stuck=>rw[e] at K;exact Zf K
theorem Jx8 {c:Str}(M:Mk X.K C fa)(F:FnOk X.prog X.w X.K X.mg X.base (CXI X.prog X.w) k fa fd ps (spI ce X.K ps f))(hC:ce c=Za C)(hr:Room (k+1) X.A)(hg:Gl X x)(hm:X.mg x=Za (.ref C))(hb:JL X.K fd ps ds)(hd:∃vs,Vals vs ds/\∀ι H,RVs X.K ι H dvs vs)
  (ha:PAi ce X (e::es) ma)(hlen:∀σ h xs h',ma σ h=.ok xs h'->xs.length+ds.length+1=ps.length)(hdb:(x==("__debug__":Str))=Zj:=by decide)(he:Z9 (e::es) X.env=(Zj,ZaJ e X.env)::Z9 es X.env:=by rfl)(hpl:(ZaU pos (Z9 es X.env)).any (·.1)=Zj:=by rfl) :
  PEi ce X (.Call (.Name x p) (e::es) [] pos) (Qn c f dvs ma):=by
 intro pj s σ H ι σi h Q E N K
 refine ZQ (QP N.inv hg hm ?_ hdb)
 refine W.callWith_K (h₀:=X.base) N.inv.ok.mod.kin M.kp ?_ he hpl
 have K':=K
 unfold Qn at K'
 refine ha pos pj s σ H ι σi h _ E N ?_
 cases e0:ma σi h with
 | exc n h'=>rw[e0] at K';exact K'
 | stuck=>rw[e0] at K';exact K'
 | ok xs h' =>
  rw[e0] at K'
  intro us s1 H1 ι1 N1 n1 r1
  have hl:xs.length=us.length:=by
   obtain⟨vs,rv,q⟩:=r1
   rw[<- rv.length,q.length]
  exact⟨N1.inv.kIn,Jjo (us:=us) M F hC hr hb hd (by have:=hlen σi h xs h' e0;omega) N1 r1 (Kont.mono (r:=(f (IV.ref h'.length::(xs++dvs)) (h'++[.ins c []])).bind λ r h2=>match r with|IV.non=>Res.ok (IV.ref h'.length) h2|_=>Res.stuck) K' n1)⟩
theorem Jvh {c:Str}(M:Mk X.K C fa)(F:FnOk X.prog X.w X.K X.mg X.base (CXI X.prog X.w) k fa fd ps (spI ce X.K ps f))(hC:ce c=Za C)(hr:Room (k+1) X.A)(hg:Gl X x)(hm:X.mg x=Za (.ref C))(hb:JL X.K fd ps ds)(hd:∃vs,Vals vs ds/\∀ι H,RVs X.K ι H dvs vs)
  (hlen:ds.length+1=ps.length)(hdb:(x==("__debug__":Str))=Zj:=by decide):PEi ce X (.Call (.Name x p) [] [] pos) (Qn c f dvs Jd):=by
 intro pj s σ H ι σi h Q E N K
 refine ZQ (QP N.inv hg hm ?_ hdb)
 exact W.callWith_K0 N.inv.kIn M.kp (Jjo (xs:=[]) M F hC hr hb hd (by simpa using hlen) N .nil K)
def Jng (ce:CeT)(X:Cx)(m:Str)(n:Nat)(disp:Str->Option ((List IV->IH->Res IV)×List IV)):Prop :=
 ∀c f dvs,disp c=Za (f,dvs)->∃(C fa:Zi)(fd:Zam)(k:Nat)(ps:List Str)(ds:List Zd),ce c=Za C/\Cls X.K C/\Meth X.K C m fa/\FnOk X.prog X.w X.K X.mg X.base (CXI X.prog X.w) k fa fd ps (spI ce X.K ps f)/\Room k X.A/\JL X.K fd ps ds/\(∃vs,Vals vs ds/\∀ι H,RVs X.K ι H dvs vs)/\n+ds.length+1=ps.length
theorem Jyb {n:Nat}{disp:Str->Option ((List IV->IH->Res IV)×List IV)}{pl:Sem Bool}(ho:PEi ce X o mo)(hd:Jng ce X m n disp)(ha:PAi ce X (e::es) ma)(hlen:∀σ h xs h',ma σ h=.ok xs h'->xs.length=n)
  (hst:Z9 (e::es) X.env=(Zj,ZaJ e X.env)::Z9 es X.env:=by rfl)(hpl:(ZaU pos (Z9 es X.env)).any (·.1)=Zj:=by rfl)
  (ht:ZaJ (.Call (.Attribute o m apos) (e::es) [] pos) X.env=(do
   let ov<-ZaJ o X.env
   Ze8 apos.atName
   let (f,first)<-Zdk [ov] (ZdG ov m pl)
   callWith pos f first (ZaU pos (Z9 (e::es) X.env)) (ZdO pos (Zc5 [] X.env))):=by rfl) :
  PEi ce X (.Call (.Attribute o m apos) (e::es) [] pos) (Jrg m disp mo ma):=by
 intro pj s σ H ι σi h Q E N K
 refine W.methodCall_KW (pl:=pl) (ho.run N K λ v h1 u s1 H1 ι1 N1 n1 r1 K1=>?_) ht
 cases v with
 | ref i =>
  obtain⟨w,rw',a,e1,hi⟩:=r1
  subst e1
  cases rw'
  dsimp only at K1
  cases hh:h1[i]? with
  | none=>rw[hh] at K1;exact Zf K1
  | some ob =>
   cases ob with
   | ins c fs =>
    rw[hh] at K1
    dsimp only at K1
    cases hd1:disp c with
    | none=>rw[hd1] at K1;exact Zf K1
    | some fd1 =>
     obtain⟨f,dvs⟩:=fd1
     cases hl:fs.lookup m with
     | some z=>rw[hd1,hl] at K1;exact Zf K1
     | none =>
      rw[hd1,hl] at K1
      dsimp only at K1
      obtain⟨C,fa,fd,k,ps,ds,hC,cl,hm,F,hr,hb,hdv,hn⟩:=hd c f dvs hd1
      obtain⟨C',dx,vs,hC',hH,rp⟩:=N1.at hh hi
      rw[hC] at hC'
      cases hC'
      refine Jg8 N1.inv hH cl hm ((RPs.lookup rp).2 hl) ?_
      refine W.callWith_K (first:=[.ref a]) (h₀:=X.base) N1.inv.ok.mod.kin hm.kp ?_ hst hpl
      refine ha pos pj s1 σ H1 ι1 σi h1 _ E N1 ?_
      cases e0:ma σi h1 with
      | exc n h'=>rw[e0] at K1;exact K1
      | stuck=>rw[e0] at K1;exact K1
      | ok xs h' =>
       rw[e0] at K1
       intro us s2 H2 ι2 N2 n2 r2
       have hl:xs.length=us.length:=by
        obtain⟨vs,rv,q⟩:=r2
        rw[<- rv.length,q.length]
       have hl2:=hlen σi h1 xs h' e0
       refine⟨N2.inv.kIn,Jh4 (us:=.ref a::us) (xs:=.ref i::xs) F hr hb hdv (by rw[ZC];omega) N2 (.cons ⟨.ref a,rfl,a,rfl,n2.at hi⟩ r2) ?_⟩
       exact Kont.mono (r:=(f (.ref i::(xs++dvs)) h')) K1 n2
   | _=>rw[hh] at K1;exact Zf K1
 | _=>exact Zf K1
theorem Jvj {disp:Str->Option ((List IV->IH->Res IV)×List IV)}{pl:Sem Bool}(ho:PEi ce X o mo)(hd:Jng ce X m 0 disp)
  (ht:ZaJ (.Call (.Attribute o m apos) [] [] pos) X.env=(do
   let ov<-ZaJ o X.env
   Ze8 apos.atName
   let (f,first)<-Zdk [ov] (ZdG ov m pl)
   callWith pos f first (ZaU pos (Z9 [] X.env)) (ZdO pos (Zc5 [] X.env))):=by rfl) :
  PEi ce X (.Call (.Attribute o m apos) [] [] pos) (Jrg m disp mo Jd):=by
 intro pj s σ H ι σi h Q E N K
 refine W.methodCall_KW (pl:=pl) (ho.run N K λ v h1 u s1 H1 ι1 N1 n1 r1 K1=>?_) ht
 cases v with
 | ref i =>
  obtain⟨w,rw',a,e1,hi⟩:=r1
  subst e1
  cases rw'
  dsimp only at K1
  cases hh:h1[i]? with
  | none=>rw[hh] at K1;exact Zf K1
  | some ob =>
   cases ob with
   | ins c fs =>
    rw[hh] at K1
    dsimp only at K1
    cases hd1:disp c with
    | none=>rw[hd1] at K1;exact Zf K1
    | some fd1 =>
     obtain⟨f,dvs⟩:=fd1
     cases hl:fs.lookup m with
     | some z=>rw[hd1,hl] at K1;exact Zf K1
     | none =>
      rw[hd1,hl] at K1
      dsimp only at K1
      obtain⟨C,fa,fd,k,ps,ds,hC,cl,hm,F,hr,hb,hdv,hn⟩:=hd c f dvs hd1
      obtain⟨C',dx,vs,hC',hH,rp⟩:=N1.at hh hi
      rw[hC] at hC'
      cases hC'
      refine Jg8 N1.inv hH cl hm ((RPs.lookup rp).2 hl) ?_
      exact W.callWith_K0 (first:=[.ref a]) N1.inv.kIn hm.kp (Jh4 (us:=[.ref a]) (xs:=[.ref i]) F hr hb hdv (by rw[ZC,ZaM];omega) N1 (.cons ⟨.ref a,rfl,a,rfl,hi⟩ .nil) K1)
   | _=>rw[hh] at K1;exact Zf K1
 | _=>exact Zf K1
def eFld (f:Str)(o:E1):E1:=λ σ h=>(o σ h).bind λ v h1=>match v with
 | .ref i=>(match h1[i]? with
  | some (.ins _ fs)=>(match fs.lookup f with
   | some x=>.ok x h1
   | none=>.stuck)
  | _=>.stuck)
 | _=>.stuck
def Jq1 (ce:CeT)(K:W.Frag)(f:Str):Prop:=∀c C,ce c=Za C->Cls K C/\Va K C f
theorem J0y {fl:Str}(ho:PEi ce X o mo)(hf:Jq1 ce X.K fl)(hb:Zcs o fl X.env (ZaJ o X.env)=ZaJ o X.env:=by rfl):PEi ce X (.Attribute o fl pos) (eFld fl mo):=by
 intro pj s σ H ι σi h Q E N K
 refine Jnq hb (ho.run N K λ v h1 u s1 H1 ι1 N1 n1 r1 K1=>?_)
 cases v with
 | ref i =>
  obtain⟨w,rw',a,e1,hi⟩:=r1
  subst e1
  cases rw'
  dsimp only at K1
  cases hh:h1[i]? with
  | none=>rw[hh] at K1;exact Zf K1
  | some ob =>
   cases ob with
   | ins c fs =>
    rw[hh] at K1
    dsimp only at K1
    cases hl:fs.lookup fl with
    | none=>rw[hl] at K1;exact Zf K1
    | some z =>
     rw[hl] at K1
     obtain⟨C,dx,vs,hC,hH,rp⟩:=N1.at hh hi
     obtain⟨cl,na⟩:=hf c C hC
     obtain⟨y,hy,q⟩:=(RPs.lookup rp).1 z hl
     exact Jmg N1.inv hH cl na hy λ u' s2 I2 ru=>K1 u' s2 H1 ι1 ⟨I2,N1.rel,N1.st⟩ .refl ⟨y,ru,q⟩
   | _=>rw[hh] at K1;exact Zf K1
 | _=>exact Zf K1
noncomputable def putI (f:Str)(v:IV):List (Str×IV)->List (Str×IV)
 | []=>[(f,v)]
 | (g,x)::r=>if g=f then(g,v)::r else(g,x)::putI f v r
theorem RPs.put {K:W.Frag}{ι:List Zi}{H:Hp}{fl:Str}{v:IV}{y:V}(q:RV K ι H v y):∀{fs:List (Str×IV)}{vs:List (Str×V)},RPs K ι H fs vs->RPs K ι H (putI fl v fs) (putF fl y vs)
 | [],_,h=>by
  have e:_=[]:=h
  subst e
  exact⟨y,[],rfl,q,rfl⟩
 | (g,x)::r,_,h=>by
  obtain⟨w,vr,e,qx,t⟩:=h
  subst e
  show RPs K ι H (if g=fl then(g,v)::r else(g,x)::putI fl v r) (if g=fl then(g,y)::vr else(g,w)::putF fl y vr)
  by_cases hg:g=fl
  ·rw[if_pos hg,if_pos hg]
   exact⟨y,vr,rfl,q,t⟩
  ·rw[if_neg hg,if_neg hg]
   exact⟨w,_,rfl,qx,RPs.put q t⟩
def Q0 (f:Str)(o e:E1):S1:=λ σ h=>rS σ (e σ h) λ v h1=>rS σ (o σ h1) λ ov h2=>match ov with
 | .ref i=>(match h2[i]? with
  | some (.ins c fs)=>if fs.length<1000 then .next σ (h2.set i (.ins c (putI f v fs))) else .stuck
  | _=>.stuck)
 | _=>.stuck
theorem J1m {fl:Str}{value:Expr}{mv:E1}{pos':Pos}(ho:PEi ce X o mo)(hv:PEi ce X value mv)(hf:Jq1 ce X.K fl)(hs:Zc4 value (Za (.Attribute o fl pos')) pos.line X.env=pure Zj:=by rfl):PS1 ce X (.Assign [.Attribute o fl pos'] value pos) (Q0 fl mo mv):=by
 intro pj s σ H ι σi h Q E N K
 refine ZcH (krun hv N K λ v h1 u s1 H1 ι1 N1 n1 r1 K1=>krun ho N1 K1 λ ov h2 w s2 H2 ι2 N2 n2 r2 K2=>?_) hs
 cases ov with
 | ref i =>
  obtain⟨w,rw',a,e1,hi⟩:=r2
  subst e1
  cases rw'
  dsimp only at K2
  cases hh:h2[i]? with
  | none=>rw[hh] at K2;exact Zf K2
  | some ob =>
   cases ob with
   | ins c fs =>
    rw[hh] at K2
    dsimp only at K2
    split at K2
    ·rename_i hz
     obtain⟨C,dx,vs,hC,hH,rp⟩:=N2.at hh hi
     obtain⟨cl,na⟩:=hf c C hC
     obtain⟨y,ry,q⟩:=r1
     refine Jnb N2.inv hH cl na (by rw[rp.length];exact hz) ry λ s3 I3=>?_
     have n3:Nxt ι2 H2 ι2 (upd H2 a (.ins C dx (putF fl y vs))):=⟨⟨[],by simp⟩,Ext.upd_mut hH (by rw[hH];exact ZaE)⟩
     obtain⟨R3,_⟩:=N2.rel.write (o:=.ins C dx (putF fl y vs)) (io:=.ins c (putI fl v fs)) hi hH (by rw[hH];exact ZaE) ⟨C,dx,_,hC,Jy,RPs.put (RV.mono (n2.trans n3) _ _ q) (RPs.mono n3 _ _ rp)⟩
     exact K2 s3 σ _ ι2 ⟨I3,R3,N2.st.mono n3⟩ n3
    ·exact Zf K2
   | _=>rw[hh] at K2;exact Zf K2
 | _=>exact Zf K2
end
section
variable {ce:CeT}{X:Cx}{a b c:Expr}{ma mb mc:E1}{pos:Pos}
def Jk:IV->IV->IH->Res IV
 | .ref i,.int k,h=>match h[i]? with
  | some (.lst xs)=>(match atI xs k with
   | some v=>.ok v h
   | none=>.stuck)
  | _=>.stuck
 | .rol xs,.int k,h=>match atI xs k with
  | some v=>.ok v h
  | none=>.stuck
 | .tup xs,.int k,h=>match atI xs k with
  | some v=>.ok v h
  | none=>.stuck
 | .str x,.int k,h=>if x.length<=sizeLine then(match atI x.cps.toList k with
  | some c=>.ok (.str ⟨#[c]⟩) h
  | none=>.stuck) else .stuck
 | _,_,_=>.stuck
theorem Jj3 {K:W.Frag}{ι:List Zi}{H:Hp}{xs:List IV}{vs:List V}{k:Int}{v:IV}(r:RVs K ι H xs vs)(e:atI xs k=Za v):∃u,atI vs k=Za u/\RV K ι H v u:=by
 unfold atI at e ⊢
 rw[r.length]
 cases q:ixN xs.length k with
 | none=>rw[q] at e;cases e
 | some j =>
  rw[q] at e
  exact r.get e
def IxI (ce:CeT)(X:Cx)(g:IV->IV->IH->Res IV):Prop :=
 ∀(value slice:Expr)(pj:PnT)(s:Zk)(σ:L2.St)(H:Hp)(ι:List Zi)(σi:ISt)(h:IH)(x y:IV)(v u:Zd)(Q:QvT)(E:QvT),Now ce X pj ι σi h σ H s->RU X.K ι H x v->RU X.K ι H y u ->
  Kont ce X RU pj ι σi σ H (g x y h) Q E->Zej slice Zj v u=operate [v,u] (Zeq v u)->Zq (Z1 X.prog X.w) X.A (ZdA value slice v u) Q E s
theorem Jlw {pj:PnT}{s:Zk}{σ:L2.St}{H:Hp}{Q:QvT}{E:QvT}{r:R2}{value slice:Expr}{x y:V}{v u:Zd}(p:IxR (X.wish E) r)(I:Inv X pj σ H s)(rx:RelV x v)(ry:RelV y u)
  (k:r x y H λ z H'=>∀u s',Inv X pj σ H' s'->RelV z u->Q u s')(hs:Zej slice Zj v u=operate [v,u] (Zeq v u)):Zq (Z1 X.prog X.w) X.A (ZdA value slice v u) Q E s :=
 ZP (p value slice pj s σ H x y v u _ (I.wish E) rx ry k hs) (λ u s' ⟨_,_,I',r,q⟩=>q u s' I'.unwish r) λ _ _ z=>z
theorem x_ix:IxI ce X Jk:=by
 intro value slice pj s σ H ι σi h x y v u Q E N rx ry K hs
 obtain⟨xv,rx,qx⟩:=rx
 obtain⟨yv,ry,qy⟩:=ry
 cases y with
 | int k =>
  have e2:yv=.int k:=qy
  subst e2
  cases x with
  | ref i =>
   obtain⟨a,e1,ha⟩:=qx
   subst e1
   dsimp only[Jk] at K
   cases hi:h[i]? with
   | none=>rw[hi] at K;exact Zf K
   | some ob =>
    rw[hi] at K
    cases ob with
    | lst xs =>
     dsimp only at K
     cases hk:atI xs k with
     | none=>rw[hk] at K;exact Zf K
     | some z =>
      rw[hk] at K
      obtain⟨vs,e1,r1⟩:=N.at hi ha
      obtain⟨w,hw,qw⟩:=Jj3 r1 hk
      exact Jlw (Jo0 (X:=X.wish E)) N.inv rx ry ⟨a,vs,k,w,rfl,rfl,SqL.of e1,hw,fin0 N K qw⟩ hs
    | _=>exact Zf K
  | rol xs =>
   obtain⟨a,vs,e1,sa,ra⟩:=qx
   subst e1
   dsimp only[Jk] at K
   cases hk:atI xs k with
   | none=>rw[hk] at K;exact Zf K
   | some z =>
    rw[hk] at K
    obtain⟨w,hw,qw⟩:=Jj3 ra hk
    exact Jlw (Jo0 (X:=X.wish E)) N.inv rx ry ⟨a,vs,k,w,rfl,rfl,sa.sq,hw,fin0 N K qw⟩ hs
  | tup xs =>
   obtain⟨a,vs,e1,sa,ra⟩:=qx
   subst e1
   dsimp only[Jk] at K
   cases hk:atI xs k with
   | none=>rw[hk] at K;exact Zf K
   | some z =>
    rw[hk] at K
    obtain⟨w,hw,qw⟩:=Jj3 ra hk
    exact Jlw (Jyl (X:=X.wish E)) N.inv rx ry ⟨a,vs,k,w,rfl,rfl,sa,hw,fin0 N K qw⟩ hs
  | str x =>
   have e1:xv=.str x:=qx
   subst e1
   dsimp only[Jk] at K
   split at K
   ·rename_i hz
    cases hk:atI x.cps.toList k with
    | none=>rw[hk] at K;exact Zf K
    | some z =>
     rw[hk] at K
     exact Jlw (Jyk (X:=X.wish E)) N.inv rx ry ⟨x,k,z,rfl,rfl,hz,hk,fin0 N K rfl⟩ hs
   ·exact Zf K
  | _=>exact Zf K
 | _=>cases x<;>exact Zf K
theorem i_ix {g:IV->IV->IH->Res IV}(hg:IxI ce X g)(ha:PEi ce X a ma)(hb:PEi ce X b mb)(hs:Jnh b:=by intro _ _;rfl):PEi ce X (.Subscript a b pos) (Jc g ma mb):=λ pj s σ H ι σi h Q E N K =>
 Subscript_ (ha.run N K λ x h1 u s1 H1 ι1 N1 n1 r1 K1=>hb.run N1 K1 λ y h2 w s2 H2 ι2 N2 n2 r2 K2=>hg a b pj s2 σ H2 ι2 σi h2 x y u w Q E N2 (r1.mono n2) r2 K2 (hs _ _))
abbrev O1:=ISt->IH->Res (Option Int)
def J0h:REL (Option Int) Zd:=λ _ _ _ o u=>ZeD u o
def PPi (ce:CeT)(X:Cx)(e:Option Expr)(m:O1):Prop:=PX ce X J0h (evalPart e X.env) m
noncomputable def XQ:O1:=λ _ h=>.ok Zb h
def Qy (e:E1):O1:=λ σ h=>(e σ h).bind λ v h1=>match v with
 | .int i=>.ok (Za i) h1
 | _=>.stuck
theorem Jy9:PPi ce X Zb XQ:=by
 intro pj s σ H ι σi h Q E N K
 rw[Zev]
 exact Zw (K _ s H ι N .refl .none)
theorem Jza (ha:PEi ce X a ma):PPi ce X (Za a) (Qy ma):=by
 intro pj s σ H ι σi h Q E N K
 rw[evalPart_some]
 refine ha.run N K λ x h1 u s1 H1 ι1 N1 n1 r1 K1=>?_
 cases x with
 | int i =>
  obtain⟨w,rw',q⟩:=r1
  have e:w=.int i:=q
  subst e
  obtain⟨t,rfl⟩:=rw'
  exact K1 _ s1 H1 ι1 N1 .refl (.int i t)
 | _=>exact Zf K1
def cutI {α:Type}(xs:List α)(lo hi:Option Int):List α:=(xs.drop (HT.sIx xs.length 0 lo)).take (HT.sIx xs.length xs.length hi-HT.sIx xs.length 0 lo)
def slI:IV->Option Int->Option Int->IH->Res IV
 | .ref i,lo,hi,h=>match h[i]? with
  | some (.lst xs)=>.ok (.ref h.length) (h++[.lst (cutI xs lo hi)])
  | _=>.stuck
 | .rol xs,lo,hi,h=>.ok (.ref h.length) (h++[.lst (cutI xs lo hi)])
 | _,_,_,_=>.stuck
theorem RVs.cut {K:W.Frag}{ι:List Zi}{H:Hp}{xs:List IV}{vs:List V}(r:RVs K ι H xs vs)(lo hi:Option Int):RVs K ι H (cutI xs lo hi) (cutV vs lo hi):=by
 unfold cutI cutV
 rw[r.length]
 exact(r.drop _).take _
def eSl (f:IV->Option Int->Option Int->IH->Res IV)(e:E1)(lo hi:O1):E1:=λ σ h=>(e σ h).bind λ x h1=>(lo σ h1).bind λ l h2=>(hi σ h2).bind λ u h3=>f x l u h3
def SlI (ce:CeT)(X:Cx)(g:IV->Option Int->Option Int->IH->Res IV):Prop :=
 ∀(pj:PnT)(s:Zk)(σ:L2.St)(H:Hp)(ι:List Zi)(σi:ISt)(h:IH)(x:IV)(v vl vu:Zd)(lo hi:Option Int)(sl:Zi)(Q:QvT)(E:QvT),Now ce X pj ι σi h σ H s->RU X.K ι H x v->s.heap.IsSliceOf sl vl vu .none->ZeD vl lo->ZeD vu hi ->
  Kont ce X RU pj ι σi σ H (g x lo hi h) Q E->∃T id,Zez (.type T) "__getitem__"=pure (Za (.builtin id))/\s.TypeIs v T/\Zq (Z1 X.prog X.w) X.A (Zeq v (.ref sl)) Q E s
theorem Jud {pj:PnT}{s:Zk}{σ:L2.St}{H:Hp}{Q:QvT}{E:QvT}{r:V->Option Int->Option Int->Hp->VK->Prop}{x:V}{v vl vu:Zd}{lo hi:Option Int}{sl:Zi}(p:SlR (X.wish E) r)(I:Inv X pj σ H s)(rx:RelV x v)
  (hs:s.heap.IsSliceOf sl vl vu .none)(pl:ZeD vl lo)(pu:ZeD vu hi)(k:r x lo hi H λ z H'=>∀u s',Inv X pj σ H' s'->RelV z u->Q u s') :
  ∃T id,Zez (.type T) "__getitem__"=pure (Za (.builtin id))/\s.TypeIs v T/\Zq (Z1 X.prog X.w) X.A (Zeq v (.ref sl)) Q E s:=by
 obtain⟨T,id,h1,h2,h3⟩:=p pj s σ H x v vl vu lo hi sl _ (I.wish E) rx hs pl pu k
 exact⟨T,id,h1,h2,ZP h3 (λ u s' ⟨_,_,I',r,q⟩=>q u s' I'.unwish r) λ _ _ z=>z⟩
theorem Jvk {g:IV->Option Int->Option Int->IH->Res IV}{lo hi:Option Expr}{ml mh:O1}{p2:Pos}(hr:SlI ce X g)(he:PEi ce X a ma)(hl:PPi ce X lo ml)(hu:PPi ce X hi mh):PEi ce X (.Subscript a (.Slice lo hi Zb p2) pos) (eSl g ma ml mh):=by
 intro pj s σ H ι σi h Q E N K
 refine Subscript_ (he.run N K λ x h1 v s1 H1 ι1 N1 n1 r1 K1=>?_)
 refine wpAny_Slice (PX.run hl N1 K1 λ l h2 vl s2 H2 ι2 N2 n2 pl K2=>PX.run hu N2 K2 λ u h3 vu s3 H3 ι3 N3 n3 pu K3=>?_)
 rw[Zev]
 refine Zw ?_
 have I4:Inv X pj σ H3 { s3 with heap:=s3.heap.push { cls:=.type "slice",data:=.fields #[vl,vu,.none] } }:=N3.inv.kept (t':=s3.toks) λ b ob q=>Zg _ q
 obtain⟨T,id,hT,ht,hg⟩:=hr pj { s3 with heap:=s3.heap.push { cls:=.type "slice",data:=.fields #[vl,vu,.none] } } σ H3 ι3 σi h3 x v vl vu l u s3.heap.objs.size Q E ⟨I4,N3.rel,N3.st⟩ ((r1.mono n2).mono n3) (Heap.IsSliceOf.new ..) pl pu K3
 show Zq (Z1 X.prog X.w) X.A (ZdA a (.Slice lo hi Zb p2) v (.ref s3.heap.objs.size)) Q E { s3 with heap:=s3.heap.push { cls:=.type "slice",data:=.fields #[vl,vu,.none] } }
 exact tail_any (ops:=[.ref s3.heap.objs.size,v]) ht hT hg (by with_unfolding_all rfl)
def eCB (f:List IV->IH->Res IV)(a:A1):E1:=λ σ h=>(a σ h).bind f
variable {es:List Expr}{mr:A1}{x:Str}{p:Pos}{id T:String}{g:List IV->IH->Res IV}
theorem Vt (hc:Qu ce X (.builtin id) g)(hg:Gl X x)(hm:X.mg x=Zb)(hv:Zbp x=Za (.builtin id))(ha:PAi ce X (a::es) mr)(hn:x≠"__name__":=by decide)(hdb:(x==("__debug__":Str))=Zj:=by decide)
  (he:Z9 (a::es) X.env=(Zj,ZaJ a X.env)::Z9 es X.env:=by rfl)(hpl:(ZaU pos (Z9 es X.env)).any (·.1)=Zj:=by rfl):PEi ce X (.Call (.Name x p) (a::es) [] pos) (eCB g mr):=λ pj s σ H ι σi h Q E N K =>
 ZQ (Qg N.inv hg hm hv (Zbd ((ha pos).run N K λ xs h1 us s1 H1 ι1 N1 n1 r1 K1=>hc pj s1 σ H1 ι1 σi h1 xs us Q E N1 r1 K1) he hpl) hn hdb)
theorem Jos (hc:Qu ce X (.type T) g)(hg:Gl X x)(hm:X.mg x=Zb)(hv:Zbp x=Za (.type T))(ha:PAi ce X (a::es) mr)(hn:x≠"__name__":=by decide)(hdb:(x==("__debug__":Str))=Zj:=by decide)
  (he:Z9 (a::es) X.env=(Zj,ZaJ a X.env)::Z9 es X.env:=by rfl)(hpl:(ZaU pos (Z9 es X.env)).any (·.1)=Zj:=by rfl):PEi ce X (.Call (.Name x p) (a::es) [] pos) (eCB g mr):=λ pj s σ H ι σi h Q E N K =>
 ZQ (Qg N.inv hg hm hv (Zaa ((ha pos).run N K λ xs h1 us s1 H1 ι1 N1 n1 r1 K1=>hc pj s1 σ H1 ι1 σi h1 xs us Q E N1 r1 K1) he hpl) hn hdb)
def on1 (f:IV->IH->Res IV):List IV->IH->Res IV
 | [x],h=>f x h
 | _,_=>.stuck
def on2 (f:IV->IV->IH->Res IV):List IV->IH->Res IV
 | [x,y],h=>f x y h
 | _,_=>.stuck
theorem RVs.one_of {K:W.Frag}{ι:List Zi}{H:Hp}{x:IV}{vs:List V}(r:RVs K ι H [x] vs):∃v,vs=[v]/\RV K ι H x v:=by
 obtain⟨v,r',e,q,q2⟩:=r
 have e2:r'=[]:=q2
 subst e2
 exact⟨v,e,q⟩
theorem RVs.two_of {K:W.Frag}{ι:List Zi}{H:Hp}{x y:IV}{vs:List V}(r:RVs K ι H [x,y] vs):∃v w,vs=[v,w]/\RV K ι H x v/\RV K ι H y w:=by
 obtain⟨v,r',e,q,r2⟩:=r
 obtain⟨w,e2,q2⟩:=r2.one_of
 subst e2
 exact⟨v,w,e,q,q2⟩
theorem V8 {fv:Zd}{f:IV->IH->Res IV}(hh:∀(pj:PnT)(s:Zk)(σ:L2.St)(H:Hp)(ι:List Zi)(σi:ISt)(h:IH)(x:IV)(xv:V)(u:Zd)(Q:QvT)(E:QvT),Now ce X pj ι σi h σ H s->RelV xv u->RV X.K ι H x xv ->
  Kont ce X RU pj ι σi σ H (f x h) Q E->Zq (Z1 X.prog X.w) X.A (call fv [u]) Q E s):Qu ce X fv (on1 f):=by
 intro pj s σ H ι σi h xs us Q E N r K
 obtain⟨vs,rv,q⟩:=r
 match xs,K with
 | [x],K =>
  obtain⟨v,e,qx⟩:=q.one_of
  subst e
  obtain⟨u,rfl,ru⟩:=Qq rv
  exact hh pj s σ H ι σi h x v u Q E N ru qx K
 | [],K=>exact Zf K
 | _::_::_,K=>exact Zf K
noncomputable def lenI:IV->IH->Res IV
 | .str x,h=>if x.length<=sizeLine then .ok (.int x.length) h else .stuck
 | .tup xs,h=>.ok (.int xs.length) h
 | .rol xs,h=>.ok (.int xs.length) h
 | .ref i,h=>match h[i]? with
  | some (.lst xs)=>.ok (.int xs.length) h
  | _=>.stuck
 | _,_=>.stuck
theorem Jxl:Qu ce X (.builtin "len") (on1 lenI):=V8 λ pj s σ H ι σi h x xv u Q E N ru qx K=>by
 cases x with
 | str y =>
  have e:xv=.str y:=qx
  subst e
  dsimp only[lenI] at K
  split at K
  ·rename_i hz
   exact QI (Jfc (X:=X.wish E)) N.inv (.cons ru .nil) ⟨_,_,rfl,⟨hz,rfl⟩,fin0 N K rfl⟩
  ·exact Zf K
 | tup xs =>
  obtain⟨a,vs,e1,sa,ra⟩:=qx
  subst e1
  exact QI (Jfc (X:=X.wish E)) N.inv (.cons ru .nil) ⟨_,xs.length,rfl,.inr ⟨vs,sa,ra.length.symm⟩,fin0 N K rfl⟩
 | rol xs =>
  obtain⟨a,vs,e1,sa,ra⟩:=qx
  subst e1
  exact QI (Jfc (X:=X.wish E)) N.inv (.cons ru .nil) ⟨_,xs.length,rfl,.inl ⟨vs,sa.sq,ra.length.symm⟩,fin0 N K rfl⟩
 | ref i =>
  obtain⟨a,e1,ha⟩:=qx
  subst e1
  dsimp only[lenI] at K
  cases hi:h[i]? with
  | none=>rw[hi] at K;exact Zf K
  | some ob =>
   rw[hi] at K
   cases ob with
   | lst xs =>
    obtain⟨vs,e1,r1⟩:=N.at hi ha
    exact QI (Jfc (X:=X.wish E)) N.inv (.cons ru .nil) ⟨_,xs.length,rfl,.inl ⟨vs,SqL.of e1,r1.length.symm⟩,fin0 N K rfl⟩
   | _=>exact Zf K
 | _=>exact Zf K
end
def ALen (n:Nat)(m:A1):Prop:=∀σ h xs h',m σ h=.ok xs h'->xs.length=n
theorem Jq2:ALen 0 Jd:=λ _ _ xs _ e=>by
 unfold Jd at e
 cases e
 rfl
theorem Jnj {n:Nat}{e:E1}{r:A1}(hr:ALen n r):ALen (n+1) (Jb e r):=λ σ h xs h' q=>by
 unfold Jb at q
 cases e1:e σ h with
 | ok x h1 =>
  rw[e1] at q
  change (r σ h1).bind (λ xs h2=>.ok (x::xs) h2)=_ at q
  cases e2:r σ h1 with
  | ok ys h2 =>
   rw[e2] at q
   cases q
   rw[ZC,hr σ h1 ys _ e2]
  | exc n h2=>rw[e2] at q;cases q
  | stuck=>rw[e2] at q;cases q
 | exc n h1=>rw[e1] at q;cases q
 | stuck=>rw[e1] at q;cases q
def Xm (K:W.Frag)(x:Str)(f:List IV->IH->Res IV):Sp:=λ vs H Q E=>∀ce,spI ce K [x] f vs H Q E
theorem Jrn {P:ZA}{w:ZM}{K:W.Frag}{mg:Str->Option Zd}{base:ZT}{k:Nat}{fa:Zi}{fd:Zam}{x:Str}{f:List IV->IH->Res IV}{ce:CeT}(F:FnOk P w K mg base (CXI P w) k fa fd [x] (spI ce K [x] f)) :
  FnOk P w K mg base (CXI P w) k fa fd [x] (Xm K x f):=F.imp λ _ _ _ _ h=>h ce
noncomputable def toD (h:IH):Nat->IV->Option ZdC
 | 0=>λ v=>match v with
  | .non=>Za .none
  | .bl b=>Za (.bool b)
  | .int i=>Za (.int i)
  | .str x=>Za (.str x)
  | _=>Zb
 | n+1=>λ v=>match v with
  | .non=>Za .none
  | .bl b=>Za (.bool b)
  | .int i=>Za (.int i)
  | .str x=>Za (.str x)
  | .tup xs=>(xs.mapM (toD h n)).map .tuple
  | .rol xs=>(xs.mapM (toD h n)).map .list
  | .ref i=>match h[i]? with
   | some (.lst xs)=>(xs.mapM (toD h n)).map .list
   | _=>Zb
section
variable {ce:CeT}{X:Cx}
theorem Jcd {pj:PnT}{s:Zk}{σ:L2.St}{H:Hp}{ι:List Zi}{σi:ISt}{h:IH}{n:Nat}(N:Now ce X pj ι σi h σ H s)
  (ih:∀(v:IV)(d:ZdC)(x:V)(u:Zd),toD h n v=Za d->RV X.K ι H v x->RelV x u->∃as,Reads s.heap u d as) :
  ∀(xs:List IV)(ds:List ZdC)(vs:List V)(us:List Zd),xs.mapM (toD h n)=Za ds->RVs X.K ι H xs vs->Vals vs us->∃as,ReadsAll s.heap us ds as
 | [],ds,vs,us,e,q,r=>by
  have e1:vs=[]:=q
  subst e1
  cases r
  simp at e
  subst e
  exact⟨_,.nil⟩
 | x::xs,ds,vs,us,e,q,r=>by
  obtain⟨v,vr,e1,q1,q2⟩:=q
  subst e1
  cases r with
  | cons r1 r2 =>
   rw[Zdu] at e
   cases e2:toD h n x with
   | none=>rw[e2] at e;cases e
   | some d =>
    rw[e2] at e
    cases e3:xs.mapM (toD h n) with
    | none=>rw[e3] at e;cases e
    | some dr =>
     rw[e3] at e
     cases e
     obtain⟨as,h1⟩:=ih x d v _ e2 q1 r1
     obtain⟨bs,h2⟩:=Jcd N ih xs dr vr _ e3 q2 r2
     exact⟨_,.cons h1 h2⟩
theorem QS {pj:PnT}{s:Zk}{σ:L2.St}{H:Hp}{ι:List Zi}{σi:ISt}{h:IH}(N:Now ce X pj ι σi h σ H s):∀(n:Nat)(v:IV)(d:ZdC)(x:V)(u:Zd),toD h n v=Za d->RV X.K ι H v x->RelV x u->∃as,Reads s.heap u d as:=by
 have flat:∀(v:IV)(d:ZdC)(x:V)(u:Zd),toD h 0 v=Za d->RV X.K ι H v x->RelV x u->∃as,Reads s.heap u d as:=by
  intro v d x u e q r
  cases v with
  | non=>cases e;have e1:x=.non:=q;subst e1;cases r;exact⟨_,.none⟩
  | bl b=>cases e;have e1:x=.bl b:=q;subst e1;cases r;exact⟨_,.bool b⟩
  | int i=>cases e;have e1:x=.int i:=q;subst e1;obtain⟨t,rfl⟩:=r;exact⟨_,.int i t⟩
  | str z=>cases e;have e1:x=.str z:=q;subst e1;obtain⟨t,rfl⟩:=r;exact⟨_,.str z t⟩
  | _=>cases e
 intro n
 induction n with
 | zero=>exact flat
 | succ n ih =>
  intro v d x u e q r
  cases v with
  | non=>exact flat .non d x u e q r
  | bl b=>exact flat (.bl b) d x u e q r
  | int i=>exact flat (.int i) d x u e q r
  | str z=>exact flat (.str z) d x u e q r
  | tup xs =>
   obtain⟨a,vs,e1,sa,ra⟩:=q
   subst e1
   cases r
   obtain⟨ds,e2,rfl⟩:=Z5.mp (show(xs.mapM (toD h n)).map PyData.tuple=Za d from e)
   obtain⟨its,rv,⟨o,ho,hc,m,hd⟩,hz⟩:=N.inv.tuple sa
   obtain⟨as,h1⟩:=Jcd N ih xs ds vs its e2 ra rv
   exact⟨_,.tuple ho hc hd h1⟩
  | rol xs =>
   obtain⟨a,vs,e1,sa,ra⟩:=q
   subst e1
   cases r
   obtain⟨ds,e2,rfl⟩:=Z5.mp (show(xs.mapM (toD h n)).map ZbL=Za d from e)
   obtain⟨its,rv,⟨o,m,ho,hc,_,hd⟩,hz⟩:=N.inv.list sa.sq
   obtain⟨as,h1⟩:=Jcd N ih xs ds vs its e2 ra rv
   exact⟨_,.list ho hc hd h1⟩
  | ref i =>
   obtain⟨a,e1,ha⟩:=q
   subst e1
   cases r
   have e':(match h[i]? with|some (.lst xs)=>(xs.mapM (toD h n)).map ZbL|_=>Zb)=Za d:=e
   cases hi:h[i]? with
   | none=>rw[hi] at e';cases e'
   | some ob =>
    rw[hi] at e'
    cases ob with
    | lst xs =>
     obtain⟨ds,e2,rfl⟩:=Z5.mp e'
     obtain⟨vs,e1,r1⟩:=N.at hi ha
     obtain⟨its,rv,⟨o,m,ho,hc,_,hd⟩,hz⟩:=N.inv.list (SqL.of e1)
     obtain⟨as,h1⟩:=Jcd N ih xs ds vs its e2 r1 rv
     exact⟨_,.list ho hc hd h1⟩
    | _=>cases e'
theorem Jcb {n:Nat}{f:IV->Option ZdC}(hf:∀v d,f v=Za d->d.depth<=n):∀(xs:List IV)(ds:List ZdC),xs.mapM f=Za ds->PyData.depthAll ds<=n
 | [],ds,e=>by simp at e;subst e;exact Zal _
 | x::xs,ds,e=>by
  rw[Zdu] at e
  cases e2:f x with
  | none=>rw[e2] at e;cases e
  | some d =>
   rw[e2] at e
   cases e3:xs.mapM f with
   | none=>rw[e3] at e;cases e
   | some dr =>
    rw[e3] at e
    cases e
    have h1:=hf x d e2
    have h2:=Jcb hf xs dr e3
    show max d.depth (PyData.depthAll dr)<=n
    omega
theorem Jeh {h:IH}:∀(n:Nat)(v:IV)(d:ZdC),toD h n v=Za d->d.depth<=n:=by
 intro n
 induction n with
 | zero =>
  intro v d e
  cases v<;>cases e<;>exact Zr _
 | succ n ih =>
  intro v d e
  cases v with
  | non=>cases e;exact Zal _
  | bl b=>cases e;exact Zal _
  | int i=>cases e;exact Zal _
  | str z=>cases e;exact Zal _
  | tup xs =>
   obtain⟨ds,e2,rfl⟩:=Z5.mp (show(xs.mapM (toD h n)).map PyData.tuple=Za d from e)
   exact Zcg (Jcb ih xs ds e2)
  | rol xs =>
   obtain⟨ds,e2,rfl⟩:=Z5.mp (show(xs.mapM (toD h n)).map ZbL=Za d from e)
   exact Zcg (Jcb ih xs ds e2)
  | ref i =>
   have e':(match h[i]? with|some (.lst xs)=>(xs.mapM (toD h n)).map ZbL|_=>Zb)=Za d:=e
   cases hi:h[i]? with
   | none=>rw[hi] at e';cases e'
   | some ob =>
    rw[hi] at e'
    cases ob with
    | lst xs =>
     obtain⟨ds,e2,rfl⟩:=Z5.mp e'
     exact Zcg (Jcb ih xs ds e2)
    | _=>cases e'
noncomputable def Vz:IV->IV->Option Bool
 | .non,.non=>Za Ze
 | .int i,.int j=>Za (decide (i=j))
 | .str i,.str j=>Za (decide (i=j))
 | .bl i,.bl j=>Za (decide (i=j))
 | _,_=>Zb
noncomputable def QA (x y:IV)(h:IH):Option Bool:=match toD h 6 x,toD h 6 y with
 | some a,Za b=>if a.canLay0=Ze/\b.canLay0=Ze then Za (ZaP a b) else Zb
 | _,_=>Zb
noncomputable def cEq (x y:IV)(h:IH):Res IV:=match Vz x y with
 | some b=>.ok (.bl b) h
 | none=>match QA x y h with
  | some b=>.ok (.bl b) h
  | none=>.stuck
noncomputable def cNe (x y:IV)(h:IH):Res IV:=match Vz x y with
 | some b=>.ok (.bl (!b)) h
 | none=>match QA x y h with
  | some b=>.ok (.bl (!b)) h
  | none=>.stuck
theorem Jk7 {x y:IV}{h:IH}{b:Bool}(e:QA x y h=Za b):∃da db,toD h 6 x=Za da/\toD h 6 y=Za db/\da.canLay0=Ze/\db.canLay0=Ze/\b=ZaP da db:=by
 unfold QA at e
 cases e1:toD h 6 x with
 | none=>rw[e1] at e;cases e
 | some da =>
  cases e2:toD h 6 y with
  | none=>rw[e1,e2] at e;cases e
  | some db =>
   rw[e1,e2] at e
   dsimp only at e
   split at e
   ·rename_i hz
    cases e
    exact⟨da,db,rfl,rfl,hz.1,hz.2,rfl⟩
   ·cases e
theorem Jjz {K:W.Frag}{ι:List Zi}{H:Hp}{x y:IV}{b:Bool}{xv yv:V}(e:Vz x y=Za b)(qx:RV K ι H x xv)(qy:RV K ι H y yv):scal xv yv=Ze/\decide (xv=yv)=b:=by
 cases x with
 | non =>
  cases y with
  | non=>cases e;cases (show xv=.non from qx);cases (show yv=.non from qy);exact⟨rfl,rfl⟩
  | _=>cases e
 | int i =>
  cases y with
  | int j=>cases e;cases (show xv=.int i from qx);cases (show yv=.int j from qy);exact⟨rfl,by simp⟩
  | _=>cases e
 | str i =>
  cases y with
  | str j=>cases e;cases (show xv=.str i from qx);cases (show yv=.str j from qy);exact⟨rfl,by simp⟩
  | _=>cases e
 | bl i =>
  cases y with
  | bl j=>cases e;cases (show xv=.bl i from qx);cases (show yv=.bl j from qy);exact⟨rfl,by simp⟩
  | _=>cases e
 | _=>cases y<;>cases e
theorem o_eq (hu:X.A.units+64<Zet):OpI ce X (Zak .Eq) cEq:=by
 intro pj s σ H ι σi h x y v u Q E N rx ry K
 obtain⟨xv,rx,qx⟩:=rx
 obtain⟨yv,ry,qy⟩:=ry
 unfold cEq at K
 cases es:Vz x y with
 | some b =>
  rw[es] at K
  obtain⟨h1,h2⟩:=Jjz es qx qy
  exact JP (J1a (X:=X.wish E)) N.inv rx ry ⟨h1,by rw[h2];exact fin0 N K rfl⟩
 | none =>
  rw[es] at K
  dsimp only at K
  cases ed:QA x y h with
  | none=>rw[ed] at K;exact Zf K
  | some b =>
   rw[ed] at K
   obtain⟨da,db,e1,e2,c1,c2,rfl⟩:=Jk7 ed
   obtain⟨as,r1⟩:=QS N 6 x da xv v e1 qx rx
   obtain⟨bs,r2⟩:=QS N 6 y db yv u e2 qy ry
   have d1:=Jeh 6 x da e1
   exact PySem.SeqAt.compareEq_reads r1 r2 c1 c2 (by omega) (fin0 N K rfl _ s N.inv rfl)
theorem o_ne (hu:X.A.units+64<Zet):OpI ce X (Zak .NotEq) cNe:=by
 intro pj s σ H ι σi h x y v u Q E N rx ry K
 obtain⟨xv,rx,qx⟩:=rx
 obtain⟨yv,ry,qy⟩:=ry
 unfold cNe at K
 cases es:Vz x y with
 | some b =>
  rw[es] at K
  obtain⟨h1,h2⟩:=Jjz es qx qy
  exact JP (J1f (X:=X.wish E)) N.inv rx ry ⟨h1,by rw[h2];exact fin0 N K rfl⟩
 | none =>
  rw[es] at K
  dsimp only at K
  cases ed:QA x y h with
  | none=>rw[ed] at K;exact Zf K
  | some b =>
   rw[ed] at K
   obtain⟨da,db,e1,e2,c1,c2,rfl⟩:=Jk7 ed
   obtain⟨as,r1⟩:=QS N 6 x da xv v e1 qx rx
   obtain⟨bs,r2⟩:=QS N 6 y db yv u e2 qy ry
   have d1:=Jeh 6 x da e1
   exact PySem.SeqAt.compareNe_reads r1 r2 c1 c2 (by omega) (fin0 N K rfl _ s N.inv rfl)
def inI (x c:IV)(h:IH):Option Bool:=match toD h 6 c,toD h 6 x with
 | some (.list ds),Za d=>if Zau ds=Ze/\d.canLay0=Ze then Za (ds.any λ y=>ZaP y d) else Zb
 | some (.tuple ds),Za d=>if Zau ds=Ze/\d.canLay0=Ze then Za (ds.any λ y=>ZaP y d) else Zb
 | _,_=>Zb
noncomputable def cIn (x c:IV)(h:IH):Res IV:=match inI x c h with
 | some b=>.ok (.bl b) h
 | none=>.stuck
def V7 (x c:IV)(h:IH):Res IV:=match inI x c h with
 | some b=>.ok (.bl (!b)) h
 | none=>.stuck
theorem Jtt {x c:IV}{h:IH}{b:Bool}(e:inI x c h=Za b):∃ds d,(toD h 6 c=Za (.list ds)∨toD h 6 c=Za (.tuple ds))/\toD h 6 x=Za d/\Zau ds=Ze/\d.canLay0=Ze/\b=ds.any λ y=>ZaP y d:=by
 unfold inI at e
 cases e1:toD h 6 c with
 | none=>rw[e1] at e;cases e
 | some dc =>
  cases e2:toD h 6 x with
  | none=>rw[e1,e2] at e;cases dc<;>cases e
  | some d =>
   rw[e1,e2] at e
   cases dc with
   | list ds =>
    dsimp only at e
    split at e
    ·rename_i hz;cases e;exact⟨ds,d,.inl rfl,rfl,hz.1,hz.2,rfl⟩
    ·cases e
   | tuple ds =>
    dsimp only at e
    split at e
    ·rename_i hz;cases e;exact⟨ds,d,.inr rfl,rfl,hz.1,hz.2,rfl⟩
    ·cases e
   | _=>cases e
theorem o_in (hu:X.A.units+64<Zet):OpI ce X (Zak .In) cIn:=by
 intro pj s σ H ι σi h x y v u Q E N rx ry K
 obtain⟨xv,rx,qx⟩:=rx
 obtain⟨yv,ry,qy⟩:=ry
 unfold cIn at K
 cases ei:inI x y h with
 | none=>rw[ei] at K;exact Zf K
 | some b =>
  rw[ei] at K
  obtain⟨ds,d,hc,e2,c1,c2,rfl⟩:=Jtt ei
  obtain⟨bs,r2⟩:=QS N 6 x d xv v e2 qx rx
  have d2:=Jeh 6 x d e2
  rcases hc with e1|e1
  ·obtain⟨as,r1⟩:=QS N 6 y _ yv u e1 qy ry
   exact PySem.SeqAt.in_list_reads r1 r2 c1 c2 (by omega) (fin0 N K rfl _ s N.inv rfl)
  ·obtain⟨as,r1⟩:=QS N 6 y _ yv u e1 qy ry
   exact PySem.SeqAt.in_tuple_reads r1 r2 c1 c2 (by omega) (fin0 N K rfl _ s N.inv rfl)
theorem Jv0 (hu:X.A.units+64<Zet):OpI ce X (Zak .NotIn) V7:=by
 intro pj s σ H ι σi h x y v u Q E N rx ry K
 obtain⟨xv,rx,qx⟩:=rx
 obtain⟨yv,ry,qy⟩:=ry
 unfold V7 at K
 cases ei:inI x y h with
 | none=>rw[ei] at K;exact Zf K
 | some b =>
  rw[ei] at K
  obtain⟨ds,d,hc,e2,c1,c2,rfl⟩:=Jtt ei
  obtain⟨bs,r2⟩:=QS N 6 x d xv v e2 qx rx
  have d2:=Jeh 6 x d e2
  rcases hc with e1|e1
  ·obtain⟨as,r1⟩:=QS N 6 y _ yv u e1 qy ry
   exact PySem.SeqAt.notIn_list_reads r1 r2 c1 c2 (by omega) (fin0 N K rfl _ s N.inv rfl)
  ·obtain⟨as,r1⟩:=QS N 6 y _ yv u e1 qy ry
   exact PySem.SeqAt.notIn_tuple_reads r1 r2 c1 c2 (by omega) (fin0 N K rfl _ s N.inv rfl)
noncomputable def isI:IV->IV->Option Bool
 | .non,.non=>Za Ze
 | .bl a,.bl b=>Za (a==b)
 | .bl _,.non=>Za Zj
 | .int _,.non=>Za Zj
 | .str _,.non=>Za Zj
 | .tup _,.non=>Za Zj
 | .rol _,.non=>Za Zj
 | .ref _,.non=>Za Zj
 | .non,.bl _=>Za Zj
 | .int _,.bl _=>Za Zj
 | .str _,.bl _=>Za Zj
 | .tup _,.bl _=>Za Zj
 | .rol _,.bl _=>Za Zj
 | .ref _,.bl _=>Za Zj
 | _,_=>Zb
noncomputable def cIs (x y:IV)(h:IH):Res IV:=match isI x y with
 | some b=>.ok (.bl b) h
 | none=>.stuck
noncomputable def V6 (x y:IV)(h:IH):Res IV:=match isI x y with
 | some b=>.ok (.bl (!b)) h
 | none=>.stuck
theorem Jtv {K:W.Frag}{ι:List Zi}{H:Hp}{x y:IV}{b:Bool}{v u:Zd}(e:isI x y=Za b)(rx:RU K ι H x v)(ry:RU K ι H y u):plainIs v u=Ze/\(v==u)=b:=by
 obtain⟨xv,rx,qx⟩:=rx
 obtain⟨yv,ry,qy⟩:=ry
 cases y with
 | non =>
  cases (show yv=.non from qy)
  cases ry
  cases x with
  | non=>cases e;cases (show xv=.non from qx);cases rx;exact⟨rfl,rfl⟩
  | bl c=>cases e;cases (show xv=.bl c from qx);cases rx;exact⟨rfl,rfl⟩
  | int c=>cases e;cases (show xv=.int c from qx);obtain⟨t,rfl⟩:=rx;exact⟨rfl,rfl⟩
  | str c=>cases e;cases (show xv=.str c from qx);obtain⟨t,rfl⟩:=rx;exact⟨rfl,rfl⟩
  | tup c=>cases e;obtain⟨a,vs,rfl,_⟩:=qx;cases rx;exact⟨rfl,rfl⟩
  | rol c=>cases e;obtain⟨a,vs,rfl,_⟩:=qx;cases rx;exact⟨rfl,rfl⟩
  | ref c=>cases e;obtain⟨a,rfl,_⟩:=qx;cases rx;exact⟨rfl,rfl⟩
 | bl d =>
  cases (show yv=.bl d from qy)
  cases ry
  cases x with
  | non=>cases e;cases (show xv=.non from qx);cases rx;exact⟨rfl,rfl⟩
  | bl c=>cases e;cases (show xv=.bl c from qx);cases rx;cases c<;>cases d<;>exact⟨rfl,rfl⟩
  | int c=>cases e;cases (show xv=.int c from qx);obtain⟨t,rfl⟩:=rx;exact⟨rfl,rfl⟩
  | str c=>cases e;cases (show xv=.str c from qx);obtain⟨t,rfl⟩:=rx;exact⟨rfl,rfl⟩
  | tup c=>cases e;obtain⟨a,vs,rfl,_⟩:=qx;cases rx;exact⟨rfl,rfl⟩
  | rol c=>cases e;obtain⟨a,vs,rfl,_⟩:=qx;cases rx;exact⟨rfl,rfl⟩
  | ref c=>cases e;obtain⟨a,rfl,_⟩:=qx;cases rx;exact⟨rfl,rfl⟩
 | _=>cases x<;>cases e
theorem o_is:OpI ce X (Zak .Is) cIs:=by
 intro pj s σ H ι σi h x y v u Q E N rx ry K
 unfold cIs at K
 cases ei:isI x y with
 | none=>rw[ei] at K;exact Zf K
 | some b =>
  rw[ei] at K
  obtain⟨h1,h2⟩:=Jtv ei rx ry
  exact wpAny_is_plain h1 (by rw[h2];exact fin0 N K rfl _ s N.inv rfl)
theorem Jvz:OpI ce X (Zak .IsNot) V6:=by
 intro pj s σ H ι σi h x y v u Q E N rx ry K
 unfold V6 at K
 cases ei:isI x y with
 | none=>rw[ei] at K;exact Zf K
 | some b =>
  rw[ei] at K
  obtain⟨h1,h2⟩:=Jtv ei rx ry
  exact wpAny_isNot_plain h1 (by rw[h2];exact fin0 N K rfl _ s N.inv rfl)
inductive Ty where
 | non|bl|int|str|lst|tup|dct|ins (c:Str)|exc (c:Str)
noncomputable def tyI:IV->IH->Option Ty
 | .non,_=>Za .non
 | .bl _,_=>Za .bl
 | .int _,_=>Za .int
 | .str _,_=>Za .str
 | .tup _,_=>Za .tup
 | .rol _,_=>Za .lst
 | .ref i,h=>match h[i]? with
  | some (.lst _)=>Za .lst
  | some (.dct _)=>Za .dct
  | some (.ins c _)=>Za (.ins c)
  | some (.exc c _)=>Za (.exc c)
  | some (.hld c _)=>Za (.exc c)
  | _=>Zb
structure ClsI (K:W.Frag)(C:Zi):Prop where
 cl:Cls K C
 ha:W.findIn K (.ref C) "__class__"=Za (Za (.builtin "object.__class__"))
 hn:W.specialIn K (.builtin "object.__class__") "__get__"=Za (Za (.builtin "getset_descriptor.__get__"))
 htk:W.takesIn K (.builtin "object.__class__")=Za Ze
 hm:W.mroIn K C (.type "object")=Za Ze
structure IsOk (ce:CeT)(K:W.Frag)(c:Zd)(ans:Ty->Option Bool):Prop where
 non:∀b,ans .non=Za b->W.kitOne K (.type "NoneType") c=Za b
 bl:∀b,ans .bl=Za b->W.kitOne K (.type "bool") c=Za b
 int:∀b,ans .int=Za b->W.kitOne K (.type "int") c=Za b
 str:∀b,ans .str=Za b->W.kitOne K (.type "str") c=Za b
 lst:∀b,ans .lst=Za b->W.kitOne K (.type "list") c=Za b
 tup:∀b,ans .tup=Za b->W.kitOne K (.type "tuple") c=Za b
 dct:∀b,ans .dct=Za b->W.kitOne K (.type "dict") c=Za b
 ins:∀k C b,ans (.ins k)=Za b->ce k=Za C->ClsI K C/\W.kitOne K (.ref C) c=Za b
 exc:∀k C b,ans (.exc k)=Za b->W.nsIn K Zm k=Za (Za (.ref C))->ExI K C/\W.kitOne K (.ref C) c=Za b
def eIsi (ans:Ty->Option Bool)(e:E1):E1:=λ σ h=>(e σ h).bind λ v h1=>match (tyI v h1).bind ans with
 | some b=>.ok (.bl b) h1
 | none=>.stuck
theorem Jvm {pj:PnT}{s:Zk}{σ:L2.St}{H:Hp}{ι:List Zi}{σi:ISt}{h:IH}{x:IV}{u c:Zd}{ans:Ty->Option Bool}{b:Bool}{Q:QvT}{E:QvT}{A:ZG}(N:Now ce X pj ι σi h σ H s)(rx:RU X.K ι H x u)(O:IsOk ce X.K c ans)
  (e:(tyI x h).bind ans=Za b)(hq:∀tk,Q (.bool b) { s with toks:=tk }):Zq (Z1 X.prog X.w) A (call (.builtin "isinstance") [u,c]) Q E s:=by
 obtain⟨xv,rx,qx⟩:=rx
 cases x with
 | non=>cases (show xv=.non from qx);cases rx;exact W.kia_one W.kitx_none N.inv.kIn ZaE (O.non b e) (λ z=>nomatch z) hq
 | bl i=>cases (show xv=.bl i from qx);cases rx;exact W.kia_one W.kitx_bool N.inv.kIn ZaE (O.bl b e) (λ z=>nomatch z) hq
 | int i=>cases (show xv=.int i from qx);obtain⟨t,rfl⟩:=rx;exact W.kia_one W.kitx_int N.inv.kIn ZaE (O.int b e) (λ z=>nomatch z) hq
 | str i=>cases (show xv=.str i from qx);obtain⟨t,rfl⟩:=rx;exact W.kia_one W.kitx_str N.inv.kIn ZaE (O.str b e) (λ z=>nomatch z) hq
 | tup xs =>
  obtain⟨a,vs,rfl,sa,_⟩:=qx
  cases rx
  obtain⟨its,rv,⟨o,ho,hc,m,hd⟩,hz⟩:=N.inv.tuple sa
  exact W.kia_one W.kitx_tuple N.inv.kIn ⟨o,ho,hc⟩ (O.tup b e) (λ z=>nomatch z) hq
 | rol xs =>
  obtain⟨a,vs,rfl,sa,_⟩:=qx
  cases rx
  obtain⟨its,rv,⟨o,m,ho,hc,_,hd⟩,hz⟩:=N.inv.list sa.sq
  exact W.kia_one W.kitx_list N.inv.kIn ⟨o,ho,hc⟩ (O.lst b e) (λ z=>nomatch z) hq
 | ref i =>
  obtain⟨a,rfl,ha⟩:=qx
  cases rx
  cases hi:h[i]? with
  | none=>simp[tyI,hi] at e
  | some ob =>
   cases ob with
   | lst xs =>
    simp only[tyI,hi] at e
    obtain⟨vs,e1,r1⟩:=N.at hi ha
    obtain⟨its,rv,⟨o,m,ho,hc,_,hd⟩,hz⟩:=N.inv.list (SqL.of e1)
    exact W.kia_one W.kitx_list N.inv.kIn ⟨o,ho,hc⟩ (O.lst b e) (λ z=>nomatch z) hq
   | dct kvs =>
    simp only[tyI,hi] at e
    obtain⟨vs,e1,r1⟩:=N.at hi ha
    obtain⟨_,_,ws,_,p⟩:=(show JE X.prog X.w H s.heap a (.dK vs) from N.inv.hok a _ e1)
    obtain⟨o,es,ep,h1,h2,_⟩:=p
    exact W.kia_one W.kitx_dict N.inv.kIn ⟨o,h1,h2.1⟩ (O.dct b e) (λ z=>nomatch z) hq
   | ins c fs =>
    simp only[tyI,hi] at e
    obtain⟨C,dx,vs,hC,hH,rp⟩:=N.at hi ha
    obtain⟨I,hk⟩:=O.ins c C b e hC
    obtain⟨mA,Ob,_⟩:=Jhv N.inv.hok hH
    obtain⟨od,J,_⟩:=Ob.look
    exact W.kia_one (W.kitx_own (I.cl.get _) I.cl.hd I.ha I.hn I.htk I.hm) N.inv.kIn J hk (λ z=>nomatch z) hq
   | exc c fs =>
    simp only[tyI,hi] at e
    obtain⟨C,tv,d,_,hC,hH,_⟩:=N.at hi ha
    obtain⟨I,hk⟩:=O.exc c C b e hC
    obtain⟨oe,vs,e1,e2,_⟩:=ExF.get N.inv.hok hH
    exact W.kia_one (Jlh I) N.inv.kIn ⟨oe,e1,e2⟩ hk (λ z=>nomatch z) hq
   | hld c fs =>
    simp only[tyI,hi] at e
    obtain⟨C,oe,u,vs,_,hC,hH,e2,_⟩:=N.at hi ha
    obtain⟨I,hk⟩:=O.exc c C b e hC
    exact W.kia_one (Jlh I) N.inv.kIn ⟨oe,(N.inv.hok a _ hH).1,e2⟩ hk (λ z=>nomatch z) hq
   | tab q=>simp[tyI,hi] at e
variable {a cx:Expr}{ma:E1}{pos p:Pos}
def ClsE (X:Cx)(cx:Expr)(c:Zd):Prop:=∀(pj:PnT)(σ:L2.St)(H:Hp)(s:Zk)(Q:QvT)(E:QvT),Inv X pj σ H s->Q c s->Zq (Z1 X.prog X.w) X.A (ZaJ cx X.env) Q E s
theorem V9 {x:Str}{c:Zd}(hg:Gl X x)(hm:X.mg x=Zb)(hv:Zbp x=Za c)(hn:x≠"__name__":=by decide)(hdb:(x==("__debug__":Str))=Zj:=by decide):ClsE X (.Name x p) c:=λ _ _ _ _ _ _ I q=>Qg I hg hm hv q hn hdb
theorem Jj5 {x:Str}{c:Zd}(hg:Gl X x)(hm:X.mg x=Za c)(hdb:(x==("__debug__":Str))=Zj:=by decide):ClsE X (.Name x p) c:=λ _ _ _ _ _ _ I q=>QP I hg hm q hdb
theorem Jx6 {ans:Ty->Option Bool}{c:Zd}(hc:ClsE X cx c)(O:IsOk ce X.K c ans)(ha:PEi ce X a ma)(hg:Gl X "isinstance")(hm:X.mg "isinstance"=Zb)(hv:Zbp "isinstance"=Za (.builtin "isinstance"):=by rfl)
  (he:Z9 [a,cx] X.env=(Zj,ZaJ a X.env)::Z9 [cx] X.env:=by rfl)(he2:Z9 [cx] X.env=(Zj,ZaJ cx X.env)::Z9 [] X.env:=by rfl)(hpl:(ZaU pos (Z9 [cx] X.env)).any (·.1)=Zj:=by rfl):PEi ce X (.Call (.Name "isinstance" p) [a,cx] [] pos) (eIsi ans ma):=by
 intro pj s σ H ι σi h Q E N K
 refine ZQ (Qg N.inv hg hm hv ?_ (by decide) (by decide))
 refine Zbd ?_ he hpl
 rw[he]
 show Zq _ _ (spliced ((Zj,ZaJ a X.env)::ZaU pos (Z9 [cx] X.env))) _ _ s
 refine Zdt (ha.run N K λ x h1 u s1 H1 ι1 N1 n1 r1 K1=>?_)
 rw[he2]
 show Zq _ _ (spliced ((Zj,ZaJ cx X.env)::ZaU pos (Z9 [] X.env))) _ _ s1
 refine Zdt (hc pj σ H1 s1 _ E N1.inv ?_)
 refine Calls.spliced_nil ?_
 cases e:(tyI x h1).bind ans with
 | none=>rw[e] at K1;exact Zf K1
 | some b =>
  rw[e] at K1
  exact Jvm N1 r1 O e λ tk=>K1 _ _ H1 ι1 ⟨N1.inv.tok tk,N1.rel,N1.st⟩ .refl ⟨.bl b,rfl,rfl⟩
def Vd:Ty->Option Bool
 | .int=>Za Ze|.bl=>Za Ze|.ins _=>Zb|.exc _=>Zb|_=>Za Zj
def Vc:Ty->Option Bool
 | .bl=>Za Ze|.ins _=>Zb|.exc _=>Zb|_=>Za Zj
def Vo:Ty->Option Bool
 | .str=>Za Ze|.ins _=>Zb|.exc _=>Zb|_=>Za Zj
def Ql:Ty->Option Bool
 | .lst=>Za Ze|.ins _=>Zb|.exc _=>Zb|_=>Za Zj
def Vp:Ty->Option Bool
 | .tup=>Za Ze|.ins _=>Zb|.exc _=>Zb|_=>Za Zj
theorem Joz {K:W.Frag}:IsOk ce K (.type "bool") Vc:=by
 refine⟨?_,?_,?_,?_,?_,?_,?_,(λ k C b e=>by cases e),(λ k C b e=>by cases e)⟩<;>(intro b e;cases e;first|rfl|with_unfolding_all rfl|kernel_rfl)
theorem Jrz {K:W.Frag}:IsOk ce K (.type "str") Vo:=by
 refine⟨?_,?_,?_,?_,?_,?_,?_,(λ k C b e=>by cases e),(λ k C b e=>by cases e)⟩<;>(intro b e;cases e;first|rfl|with_unfolding_all rfl|kernel_rfl)
theorem Jjd {K:W.Frag}:IsOk ce K (.type "list") Ql:=by
 refine⟨?_,?_,?_,?_,?_,?_,?_,(λ k C b e=>by cases e),(λ k C b e=>by cases e)⟩<;>(intro b e;cases e;first|rfl|with_unfolding_all rfl|kernel_rfl)
theorem Jr0 {K:W.Frag}:IsOk ce K (.type "tuple") Vp:=by
 refine⟨?_,?_,?_,?_,?_,?_,?_,(λ k C b e=>by cases e),(λ k C b e=>by cases e)⟩<;>(intro b e;cases e;first|rfl|with_unfolding_all rfl|kernel_rfl)
theorem Jry {K:W.Frag}:IsOk ce K (.type "int") Vd:=by
 refine⟨?_,?_,?_,?_,?_,?_,?_,(λ k C b e=>by cases e),(λ k C b e=>by cases e)⟩<;>(intro b e;cases e;first|rfl|with_unfolding_all rfl|kernel_rfl)
end
def clOf (cells:List (Str×Zi)):List (Str×Zbb)->List (Str×Zi)->List (Str×Zi)
 | [],acc=>acc
 | (n,k)::r,acc=>clOf cells r (if (k==Za1)=Ze then(match cells.lookup n with|some c=>(n,c)::acc|none=>acc) else acc)
theorem Jgq {env:Env}(names:List (Str×Zbb))(acc:List (Str×Zi))(h:∀x∈names,x.2=.free->∃c,env.cells.lookup x.1=Za c) :
  (forIn names acc (λ (x:Str×Zbb)(r:List (Str×Zi))=>if (x.2==Za1)=Ze then(do let c<-cellOf env x.1;pure (ZaN ((x.1,c)::r))) else pure (ZaN r)):Sem (List (Str×Zi)))=pure (clOf env.cells names acc):=by
 induction names generalizing acc with
 | nil=>rfl
 | cons x r ih =>
  obtain⟨n,k⟩:=x
  have ih':=λ a=>ih a λ y hy=>h y (Zt _ hy)
  rw[List.forIn_cons]
  by_cases hk:(k==Za1)=Ze
  ·have hk':k=.free:=by
    cases k<;>first|rfl|exact absurd hk (by decide)
   obtain⟨c,hc⟩:=h (n,k) Zv hk'
   have e1:cellOf env n=pure c:=by unfold cellOf;rw[hc]
   simp only[hk,if_true,e1,pure_bind]
   rw[ih']
   simp only[clOf,hk,if_true,hc]
  ·simp only[hk,Zag,if_false,pure_bind]
   rw[ih']
   simp only[clOf,hk,Zag,if_false]
theorem Jd3 {scope:Zba}{env:Env}(h:∀x∈scope.names,x.2=.free->∃c,env.cells.lookup x.1=Za c):ZdU scope env=pure (clOf env.cells scope.names []):=by
 have e:=Jgq (env:=env) scope.names [] h
 have e2:ZdU scope env=((forIn scope.names [] (λ (x:Str×Zbb)(r:List (Str×Zi))=>if (x.2==Za1)=Ze then(do let c<-cellOf env x.1;pure (ZaN ((x.1,c)::r))) else pure (ZaN r)):Sem (List (Str×Zi)))>>=λ s=>pure s):=rfl
 rw[e2,e]
 rfl
theorem Jho {cells:List (Str×Zi)}:∀(names:List (Str×Zbb))(acc:List (Str×Zi)),(∀x c,acc.lookup x=Za c->cells.lookup x=Za c)->∀x c,(clOf cells names acc).lookup x=Za c->cells.lookup x=Za c
 | [],_,h,x,c,e=>h x c e
 | (n,k)::r,acc,h,x,c,e=>by
  refine Jho r _ ?_ x c e
  intro y d q
  split at q
  ·cases hc:cells.lookup n with
   | none=>rw[hc] at q;exact h y d q
   | some a =>
    rw[hc] at q
    simp only[ZU] at q
    cases hb:y==n with
    | true =>
     rw[hb] at q
     cases q
     rw[beq_iff_eq.mp hb]
     exact hc
    | false =>
     rw[hb] at q
     exact h y d q
  ·exact h y d q
theorem Jiw {cells:List (Str×Zi)}:∀(names:List (Str×Zbb))(acc:List (Str×Zi))(x:Str),(acc.lookup x).isSome=Ze->((clOf cells names acc).lookup x).isSome=Ze
 | [],_,_,h=>h
 | (n,k)::r,acc,x,h=>by
  refine Jiw r _ x ?_
  split
  ·cases hc:cells.lookup n with
   | none=>exact h
   | some a =>
    simp only[ZU]
    cases hb:x==n with
    | true=>rfl
    | false=>exact h
  ·exact h
theorem X6 {cells:List (Str×Zi)}:∀(names:List (Str×Zbb))(acc:List (Str×Zi))(x:Str)(c:Zi),(x,Za1)∈names->cells.lookup x=Za c->((clOf cells names acc).lookup x).isSome=Ze
 | [],_,_,_,h,_=>by simp at h
 | (n,k)::r,acc,x,c,h,hc=>by
  rcases ZB.mp h with e|e
  ·obtain⟨rfl,rfl⟩:=Prod.mk.inj e
   refine Jiw r _ _ ?_
   simp[hc]
  ·exact X6 r _ x c e hc
theorem Jbn {env:Env}:∀{names:List (Str×Zbb)}{x:Str}{k:Zbb},
  (names.map λ (n,k)=>if (k==Za1&&env.scope.kind==.function&&env.kindOf n==Za .cell) then(n,ZdD) else(n,k)).lookup x=Za k ->
  ∃k0,names.lookup x=Za k0/\(k,k0)∈([(k0,k0),(.cell,.free)]:List (Zbb×Zbb))
 | [],_,_,h=>by simp at h
 | (n,k1)::r,x,k,h=>by
  have ih:=@Jbn env r x k
  have h':Zb1 x ((if (k1==Za1&&env.scope.kind==.function&&env.kindOf n==Za .cell)=Ze then(n,ZdD) else(n,k1))::_)=Za k:=h
  cases hx:x==n with
  | true =>
   refine⟨k1,by simp[ZU,hx],?_⟩
   by_cases hc:(k1==Za1&&env.scope.kind==.function&&env.kindOf n==Za .cell)=Ze
   ·rw[if_pos hc] at h'
    simp only[ZU,hx] at h'
    cases h'
    simp only[Zl,beq_iff_eq] at hc
    rw[hc.1.1]
    simp
   ·rw[if_neg hc] at h'
    simp only[ZU,hx] at h'
    cases h'
    simp
  | false =>
   have h2:Zb1 x (r.map λ (n,k)=>if (k==Za1&&env.scope.kind==.function&&env.kindOf n==Za .cell) then(n,ZdD) else(n,k))=Za k:=by
    by_cases hc:(k1==Za1&&env.scope.kind==.function&&env.kindOf n==Za .cell)=Ze
    ·rw[if_pos hc] at h';simpa only[ZU,hx] using h'
    ·rw[if_neg hc] at h';simpa only[ZU,hx] using h'
   obtain⟨k0,e,m⟩:=ih h2
   exact⟨k0,by simp only[ZU,hx];exact e,m⟩
theorem Je5 {env:Env}:∀{names:List (Str×Zbb)}{x:Str},names.lookup x=Za .free ->
  ∃k,(names.map λ (n,k)=>if (k==Za1&&env.scope.kind==.function&&env.kindOf n==Za .cell) then(n,ZdD) else(n,k)).lookup x=Za k/\(k=.cell∨k=.free)
 | [],_,h=>by simp at h
 | (n,k1)::r,x,h=>by
  have ih:=@Je5 env r x
  cases hx:x==n with
  | true =>
   simp only[ZU,hx] at h
   cases h
   by_cases hc:(Za1==Za1&&env.scope.kind==.function&&env.kindOf n==Za .cell)=Ze
   ·exact⟨.cell,by rw[Zs];dsimp only;rw[if_pos hc];simp only[ZU,hx],.inl rfl⟩
   ·exact⟨.free,by rw[Zs];dsimp only;rw[if_neg hc];simp only[ZU,hx],.inr rfl⟩
  | false =>
   simp only[ZU,hx] at h
   obtain⟨k,e,q⟩:=ih h
   refine⟨k,?_,q⟩
   rw[Zs]
   dsimp only
   by_cases hc:(k1==Za1&&env.scope.kind==.function&&env.kindOf n==Za .cell)=Ze
   ·rw[if_pos hc];simp only[ZU,hx];exact e
   ·rw[if_neg hc];simp only[ZU,hx];exact e
def cxC (X:Cx)(N':List Str)(scope:Zba)(C:Zi)(s:Zk)(H:Hp)(fp:List Zi):Cx :=
 { X with N:=N',s₀:=s,H₀:=H,env:=compEnvC scope (clOf X.env.cells scope.names []) C X.env,outer:=X.stack,ex:=fp,fn:=λ _=>Zj,pn:=[] }
def JY (N0 loc caps:List Str)(js:List Nat)(sc₀ scope:Zba):Bool :=
 decide (scope.kind=.function)&&decide (sc₀.kind=.function)&&scope.names.all (λ x=>!(x.2==.cell))&&scope.names.all (λ x=>!(x.2==.local)||decide (scope.names.lookup x.1=Za .local)) &&
 scope.names.all (λ x=>!(x.2==.free)||decide (sc₀.names.lookup x.1=Za .cell)||decide (sc₀.names.lookup x.1=Za .free)) &&
 scope.names.all (λ x=>!(decide (scope.names.lookup x.1=Za .free))||(x.2==.free)) &&
 (js.zip caps).all (λ p=>decide (N0[p.1]?=Za p.2)&&decide (scope.names.lookup p.2=Za .free))&&decide (js.length=caps.length)&&decide (loc++caps).Nodup &&
 loc.all (λ n=>decide (scope.names.lookup n=Za .local))
open Classical in
def Qd (chk:IH->Prop)(g:G1)(t:T1)(e:E1)(i0:Nat):List IV->ISt->IH->Res IV
 | [],_,h=>if chk h then .ok (.ref i0) h else .stuck
 | x::xs,σ,h=>if chk h then(match g x σ h with
   | .next σ1 h1=>(match t σ1 h1 with
    | .ok Ze h2=>(match e σ1 h2 with
     | .ok v h3=>(match h3[i0]? with
      | some (.lst acc)=>if acc.length<sizeLine then Qd chk g t e i0 xs σ1 (h3.set i0 (.lst (acc++[v]))) else .stuck
      | _=>.stuck)
     | _=>.stuck)
    | .ok Zj h2=>Qd chk g t e i0 xs σ1 h2
    | _=>.stuck)
   | _=>.stuck) else .stuck
def stC (nloc:Nat)(js:List Nat)(σ:ISt):ISt:=ZN nloc Zb++js.map λ j=>(σ[j]?).join
def Js (it:I1)(nloc:Nat)(js:List Nat)(g:G1)(t:T1)(e:E1):E1:=λ σ h=>(it σ h).bind λ J h1=>Qd J.chk g t e h1.length J.xs (stC nloc js σ) (h1++[.lst []])
theorem Jiy {prog:ZA}{w:ZM}{A:ZG}{R:Zd8->Zk->Prop}{s:Zk}{elt target iter:Expr}{ifs:List Expr}{scope:Zba}{pos:Pos}{it acc:Zd}{env:Env}(I:Nat->Zk->Prop)
  (turn:∀n s,I n s->Zq (Z1 prog w) A (Zcp it) (λ r s₁=>match r with
   | none=>R (.ok .next) s₁
   | some v=>Zq (Z1 prog w) A (Zcv target it v) (λ _ s₁'=>Zq (Z1 prog w) A (Zel target env v) (λ _ s₂ =>
     Zq (Z1 prog w) A (forIn ifs Ze λ c r=>if r=Ze then do let ok<-Zex c env (ZaJ c env);pure (ZaN ok) else pure (ZaN r)) (λ ok s₃ =>
      if ok=Ze then Zq (Z1 prog w) A (ZaJ elt env) (λ x s₄ =>
       Zq (Z1 prog w) A (call (.builtin "list.append") [acc,x]) (λ _ s₅=>∃m,m<n/\I m s₅) (λ _ _=>False) s₄) (λ _ _=>False) s₃
      else ∃m,m<n/\I m s₃) (λ _ _=>False) s₂) (λ _ _=>False) s₁') (λ _ _=>False) s₁) (λ _ _=>False) s)
  (n:Nat) (h:I n s):ZbW (Z1 prog w) A (.compLoop (.ListComp elt [⟨target,iter,ifs,0⟩] scope pos) 0 it acc env) R s:=by
 refine codeAny_loop rfl I (λ n s hI=>?_) n h
 show Zq _ A ((compTurn (.ListComp elt [⟨target,iter,ifs,0⟩] scope pos) 0 it acc env).onRaise (λ x=>do ZdN x env;theTreesLotGoes x)) _ _ s
 refine wpAny_noted (nof ?_)
 rw[compTurn_list]
 refine Zh (Zb9 (Zh (ZP (turn n s hI) (λ r s₁ h₁=>?_) λ _ _ h'=>h')))
 cases r with
 | none=>exact Zw h₁
 | some v =>
  refine Zh (ZP h₁ (λ _ s₁' h₁'=>?_) λ _ _ h'=>h')
  refine Zh (ZP h₁' (λ _ s₂ h₂=>Zh (ZP h₂ (λ ok s₃ h₃=>?_) λ _ _ h'=>h')) λ _ _ h'=>h')
  cases ok with
  | false=>exact Zw ⟨rfl,h₃⟩
  | true =>
   exact Zh (Zh (ZP h₃ (λ x s₄ h₄=>Zh (ZP h₄ (λ _ s₅ h₅=>Zw (Zw ⟨rfl,h₅⟩)) λ _ _ h'=>h')) λ _ _ h'=>h'))
def PTsi (ce:CeT)(X:Cx)(ifs:List Expr)(m:T1):Prop:=PX ce X RB (forIn ifs Ze λ c r=>if r=Ze then do let ok<-Zex c X.env (ZaJ c X.env);pure (ZaN ok) else pure (ZaN r)) m
noncomputable def JJ:T1:=λ _ h=>.ok Ze h
theorem Jua {ce:CeT}{X:Cx}:PTsi ce X [] JJ:=λ _ s _ H ι _ _ _ _ N K=>wpAny_tests_nil (K Ze s H ι N .refl rfl)
theorem Jp6 {ce:CeT}{X:Cx}{c:Expr}{m:T1}(hc:PTi ce X c m):PTsi ce X [c] m:=λ pj s σ H ι σi h Q E N K=>wpAny_tests_one (hc pj s σ H ι σi h Q E N K)
def QZ (ce:CeT)(X:Cx)(use:Option (Zd->Sem Unit))(pj:PnT)(ι:List Zi)(σi:ISt)(σ:L2.St)(H:Hp)(r:Res IV)(Q:QvT)(E:QvT):Prop :=
 match r with
 | .ok v h'=>∀D C m s' H' ι',Now ce X pj ι' σi h' σ H' s'->Nxt ι H ι' H'->RU X.K ι' H' v (.ref D)->s'.heap.Ns C m->FpOk X pj H' C->compPost (Z1 X.prog X.w) X.A E use Q (.ref D) C (.ok .next) s'
 | .exc n h'=>∀pl a s' H' ι',Now ce X (pj++pl) ι' σi h' σ H' s'->Nxt ι H ι' H'->ι'[n]?=Za a->E (.ref a) s'
 | .stuck=>False
theorem QZ.mono {ce:CeT}{X:Cx}{use:Option (Zd->Sem Unit)}{pj:PnT}{ι ι':List Zi}{σi:ISt}{σ:L2.St}{H H':Hp}{r:Res IV}{Q:QvT}{E:QvT}(k:QZ ce X use pj ι σi σ H r Q E)(n:Nxt ι H ι' H'):QZ ce X use pj ι' σi σ H' r Q E:=by
 cases r with
 | ok v h'=>exact λ D C m s' H2 ι2 N n2 q=>k D C m s' H2 ι2 N (n.trans n2) q
 | exc m h'=>exact λ pl a s' H2 ι2 N n2 q=>k pl a s' H2 ι2 N (n.trans n2) q
 | stuck=>exact k
def Warm (A:ZG)(H:Hp):Prop:=∃a oe u vs,A.handled=Za (.ref a)/\H a=Za (.frz oe u)/\oe.data=.fields vs/\vs[2]?=Za .none
theorem Warm.mono {A:ZG}{H H':Hp}(x:Ext H H')(w:Warm A H):Warm A H':=let ⟨a,oe,u,vs,e1,e2,e3,e4⟩:=w;⟨a,oe,u,vs,e1,x.frzs _ _ _ e2,e3,e4⟩
structure TurnC (P:ZA)(w:ZM)(C:Cx->Hp->Prop)(tg:Expr)(J:It)(fp:List Zi)(it:Zi)(tn:Nat->ZT->Prop):Prop where
 obj:∀i h,tn i h->∀b∈fp,∃o,h.get? b=Za o/\∀v,o.data≠.cell v
 keep:∀i h h',tn i h->(∀b∈fp,∀o,h.get? b=Za o->h'.get? b=Za o)->tn i h'
 item:∀(X:Cx)(i:Nat)(s:Zk)(σ:L2.St)(H:Hp),C X H->Inv X [] σ H s->(∀b∈fp,FpOk X [] H b)->tn i s.heap->J.go i H ->
  Zq (Z1 P w) X.A (Zcp (.ref it)) (λ r s1=>∃u,r=Za u/\Zq (Z1 P w) X.A (Zcv tg (.ref it) u) (λ _ s2=>∃x H',Inv X [] σ H' s2/\RelV x u/\J.yld i H x H'/\tn (i+1) s2.heap/\∀b∈fp,H' b=Zb) (λ _ _=>False) s1) (λ _ _=>False) s
 done:∀(X:Cx)(i:Nat)(s:Zk)(σ:L2.St)(H:Hp),C X H->Inv X [] σ H s->(∀b∈fp,FpOk X [] H b)->tn i s.heap->J.stop i H->Zq (Z1 P w) X.A (Zcp (.ref it)) (λ r s1=>r=Zb/\Inv X [] σ H s1) (λ _ _=>False) s
 self:∀(A:ZG)(i:Nat)(s:Zk)(Q:QvT)(E:QvT),tn i s.heap->Q (.ref it) s->Zq (Z1 P w) A (Zey (.ref it)) Q E s
def J0f (X0:Cx)(X:Cx)(_:Hp):Prop:=X.prog=X0.prog/\X.w=X0.w/\X.K=X0.K/\X.calm=Ze
def Jui (X0:Cx)(X:Cx)(H:Hp):Prop:=X.prog=X0.prog/\X.w=X0.w/\X.K=X0.K/\Warm X.A H
def RItC (C:Cx->Hp->Prop)(ce:CeT)(X:Cx)(tg:Expr)(pj:PnT)(ι':List Zi)(I:ItI)(itv:Zd)(s2:Zk)(H':Hp):Prop :=
 ∃(it:Zi)(fp:List Zi)(tn:Nat->ZT->Prop)(J:It),itv=.ref it/\TurnC X.prog X.w C tg J fp it tn/\tn 0 s2.heap/\(∀b∈fp,FpOk X pj H' b)/\ItOk ce X.K ι' H' J I
def PIc (C:Cx->Hp->Prop)(ce:CeT)(X:Cx)(tg iter:Expr)(m:I1):Prop :=
 ∀(pj:PnT)(s:Zk)(σ:L2.St)(H:Hp)(ι:List Zi)(σi:ISt)(h:IH)(Q:QvT)(E:QvT),Now ce X pj ι σi h σ H s ->
  (match m σi h with
   | .ok I h'=>∀itv s' H' ι',Now ce X pj ι' σi h' σ H' s'->Nxt ι H ι' H'->RItC C ce X tg pj ι' I itv s' H'->Q itv s'
   | .exc n h'=>∀pl a s' H' ι',Now ce X (pj++pl) ι' σi h' σ H' s'->Nxt ι H ι' H'->ι'[n]?=Za a->E (.ref a) s'
   | .stuck=>False) ->
  Zq (Z1 X.prog X.w) X.A (ZaJ iter X.env) (λ v s1=>Zq (Z1 X.prog X.w) X.A (Zey v) Q E s1) E s
theorem PIi.c {ce:CeT}{X:Cx}{tg iter:Expr}{m:I1}(p:PIi ce X tg iter m):PIc (J0f X) ce X tg iter m:=λ pj s σ H ι σi h Q E N k=>p pj s σ H ι σi h Q E N (by
 cases e:m σi h with
 | exc n h'=>rw[e] at k;exact k
 | stuck=>rw[e] at k;exact k
 | ok I h' =>
  rw[e] at k
  intro itv s' H' ι' N' n' ⟨it,fp,tn,J,e1,T,r⟩
  refine k itv s' H' ι' N' n' ⟨it,fp,tn,J,e1,⟨T.obj,T.keep,λ X' i s σ H c=>?_,λ X' i s σ H c=>?_,T.self⟩,r⟩
  ·exact T.item X' c.1 c.2.1 c.2.2.1 c.2.2.2 i [] s σ H _
  ·exact T.done X' c.1 c.2.1 c.2.2.1 c.2.2.2 i [] s σ H _)
section
variable {ce:CeT}{X:Cx}
theorem Jf3 {N0 loc caps:List Str}{js:List Nat}{sc₀ scope:Zba}{tg iter elt:Expr}{ifs:List Expr}{mi:I1}{g:G1}{mt:T1}{me:E1}{pos ppos:Pos}{use:Option (Zd->Sem Unit)}{Cc:Cx->Hp->Prop}(hi:PIc Cc ce X tg iter mi)
  (hg:∀C s H fp,PGi ce (cxC X (loc++caps) scope C s H fp) tg g)(ht:∀C s H fp,PTsi ce (cxC X (loc++caps) scope C s H fp) ifs mt)(he:∀C s H fp,PEi ce (cxC X (loc++caps) scope C s H fp) elt me)
  (ok:JY N0 loc caps js sc₀ scope=Ze)(hN0:X.N=N0:=by rfl)(hsc:X.env.scope=sc₀:=by rfl)(hs:∀x,Zb3 iter X.env x=pure x:=by intro _;rfl)
  {pj:PnT}{s:Zk}{σ:L2.St}{H:Hp}{ι:List Zi}{σi:ISt}{h:IH}{Q:QvT}{E:QvT}(hcc:∀C s H1 fp H',Ext H H'->Cc (cxC X (loc++caps) scope C s H1 fp) H')(N:Now ce X pj ι σi h σ H s)(K:QZ ce X use pj ι σi σ H (Js mi loc.length js g mt me σi h) Q E) :
  Zq (Z1 X.prog X.w) X.A (comprehension (.ListComp elt [⟨tg,iter,ifs,0⟩] scope pos) scope X.env ppos (newList []) Zj (ZaJ iter X.env) use) Q E s:=by
 simp only[JY,Zl,decide_eq_true_eq,ZcR,ZaH,Zaq,beq_iff_eq,beq_eq_false_iff_ne] at ok
 obtain⟨⟨⟨⟨⟨⟨⟨⟨⟨kF,kF0⟩,kNC⟩,kL⟩,kFr⟩,kFx⟩,kJ⟩,kLen⟩,kNd⟩,kLo⟩:=ok
 have hfree:∀x∈scope.names,x.2=.free->X.env.kindOf x.1=Za .cell∨X.env.kindOf x.1=Za .free:=λ x hx hk=>by
  have e:X.env.kindOf x.1=sc₀.names.lookup x.1:=by rw[<- hsc];rfl
  rw[e]
  rcases kFr x hx with(z|z)|z
  ·exact absurd hk z
  ·exact .inl z
  ·exact .inr z
 have hclos:ZdU scope X.env=pure (clOf X.env.cells scope.names []):=Jd3 λ x hx hk=>N.inv.ok.has x.1 (hfree x hx hk)
 refine wpAny_comprehension_free (use:=use) (e:=.ListComp elt [⟨tg,iter,ifs,0⟩] scope pos) rfl hs hclos kF (λ x hx hl=>(kL x hx).resolve_left λ z=>z hl) ?_
 refine hi pj s σ H ι σi h _ E N ?_
 unfold Js at K
 cases e0:mi σi h with
 | exc n h'=>rw[e0] at K;exact K
 | stuck=>rw[e0] at K;exact K
 | ok Jt h1 =>
  rw[e0] at K
  intro itv s1 H1 ι1 N1 n1 RI
  obtain⟨it,fp,tn,J,e,T,st1,f1,OK⟩:=RI
  subst e
  -- the list
  refine ZcC ?_
  have fresh1:H1 s1.heap.objs.size=Zb:=N1.inv.hok.fresh (Zr _)
  have I2:Inv X pj σ (upd H1 s1.heap.objs.size (.lst [])) { s1 with heap:=s1.heap.push { cls:=.type "list",dict:=Zb,data:=.seq ([]:List Zd).toArray } } :=
   N1.inv.laid (t':=s1.toks) (λ b u e=>Zg _ e) (Zr _) ⟨Zal _,[],0,.nil,Zy _ rfl⟩
  obtain⟨R2,n2⟩:=N1.rel.alloc (o:=.lst []) (io:=.lst []) fresh1 ⟨[],Jy,rfl⟩
  generalize hs2:({ s1 with heap:=s1.heap.push { cls:=.type "list",dict:=Zb,data:=.seq ([]:List Zd).toArray } }:Zk)=s2 at I2 ⊢
  generalize hD:s1.heap.objs.size=D at *
  generalize hH2:upd H1 D (.lst [])=H2 at *
  have N2:Now ce X pj (ι1++[D]) σi (h1++[.lst []]) σ H2 s2:=⟨I2,R2,N1.st.mono n2⟩
  have keep12:∀b o,s1.heap.get? b=Za o->s2.heap.get? b=Za o:=λ b o q=>by rw[<- hs2];exact Zg _ q
  have st2:tn 0 s2.heap:=T.keep 0 _ _ st1 λ b _ o q=>keep12 b o q
  have hat:(ι1++[D])[h1.length]?=Za D:=by
   rw[<- N1.rel.len,Zu (Zr _)]
   simp
  have f2:∀b∈fp,FpOk X pj H2 b:=λ b hb=>by
   refine⟨?_,(f1 b hb).2⟩
   obtain⟨o,ho,_⟩:=T.obj 0 _ st1 b hb
   have:b≠D:=ZD (by rw[<- hD];exact Zx ho)
   rw[<- hH2,Jo this]
   exact(f1 b hb).1
  -- the block's own dict
  refine wpAny_newFunctionEnv (λ x hx=>kNC x hx) (by intro y hy;simp at hy) (λ h3 hns3 hsb3=>?_) kF
  generalize hC:s2.heap.objs.size=C at *
  have keep23:∀b o,s2.heap.get? b=Za o->h3.get? b=Za o:=λ b o q=>(hsb3.2 b (ZD (by rw[<- hC];exact Zx q))).trans (Zg _ q)
  have cells':∀x c,(clOf X.env.cells scope.names []).lookup x=Za c->X.env.cells.lookup x=Za c:=Jho _ _ (λ x c q=>by simp at q)
  -- the context of the block
  have okX:(cxC X (loc++caps) scope C s2 H2 fp).Ok:=by
   refine⟨N.inv.ok.mod,kF,N.inv.ok.glob,N.inv.ok.blt,Zdi hC,λ x y c a b=>N.inv.ok.inj x y c (cells' x c a) (cells' y c b),λ x hx=>?_,λ x c z=>?_,N.inv.ok.hd,N.inv.ok.frames,.inl rfl,λ b hb=>?_,λ b o q=>I2.bs b o q,
    Zah N.inv.ok.bsz I2.sz,λ b o q hb=>?_,λ b hb z=>?_,I2.stack,I2.stkFree⟩
   ·have hx':(relabel scope X.env).names.lookup x=Za .cell∨(relabel scope X.env).names.lookup x=Za .free:=hx
    have hfr:scope.names.lookup x=Za .free:=by
     rcases hx' with z|z
     ·obtain⟨k0,e,m⟩:=Jbn z
      simp only[ZB,Prod.mk.injEq,ZaC,or_false] at m
      rcases m with⟨m1,_⟩|⟨_,m2⟩
      ·exact absurd (kNC _ (ZV e)) (by rw[<- m1];intro q;exact q rfl)
      ·rw[m2] at e;exact e
     ·obtain⟨k0,e,m⟩:=Jbn z
      simp only[ZB,Prod.mk.injEq,ZaC,or_false] at m
      rcases m with⟨m1,_⟩|⟨m1,_⟩
      ·rw[<- m1] at e;exact e
      ·cases m1
    have hm:=ZV hfr
    obtain⟨c,hc'⟩:=N.inv.ok.has x (hfree (x,.free) hm rfl)
    exact Za0.mp (X6 _ _ x c hm hc')
   ·exact absurd (show Zj=Ze from z) Zp
   ·have hbD:=f2 b hb
    obtain⟨o,ho,_⟩:=T.obj 0 _ st2 b hb
    exact⟨ZD (by show b<C;rw[<- hC];exact Zx ho),λ x c q=>hbD.2.2.2.2.1 x c (cells' x c q)⟩
   ·rcases(f2 b hb).2.2.2.1 with z|z
    ·exact N.inv.ok.noex b o q z
    ·exact Zcr _ (ZJ (Zx q) (Zah N.inv.ok.bsz z))
   ·rcases ZB.mp (I2.stkSub b z) with e|e
    ·exact(f2 b hb).2.1 e
    ·exact(f2 b hb).2.2.1 e
  -- the block's state
  have lenJ:js.length=caps.length:=kLen
  have stl:(stC loc.length js σi).length=(loc++caps).length:=by simp[stC,lenJ]
  have R3:Rel ce X.K (ι1++[D]) (h1++[.lst []]) H2:=R2
  have I3:Inv (cxC X (loc++caps) scope C s2 H2 fp) [] (ZN loc.length Zb++js.map λ j=>(σ[j]?).join) H2 { s2 with heap:=h3,toks:=s2.toks+([]:List (Str×Zd)).length }:=by
   refine⟨okX,rfl,I2.bare,Un.kept keep23,⟨_,hns3,λ i x v a b c=>?_⟩,λ x c q=>?_,I2.hok.fresh (Zdi hC),λ x c q=>I2.freeC x c (cells' x c q),λ p hp=>absurd (show p∈([]:PnT) from hp) (by simp),I2.hok.kept keep23,by show _=(loc++caps).length;simp[lenJ]⟩
   ·have hi:loc.length<=i:=by
     refine ZdJ λ hlt=>?_
     rw[Z7 (by simpa using hlt),ZbD] at b
     split at b<;>cases b
    obtain⟨k,rfl⟩:∃k,i=loc.length+k:=⟨i-loc.length,by omega⟩
    have a':(loc++caps)[loc.length+k]?=Za x:=a
    rw[Zu (by omega)] at a'
    rw[Zu (by simp)] at b
    simp only[ZdP,ZbS,Z0] at a' b
    cases ej:js[k]? with
    | none=>rw[ej] at b;cases b
    | some j =>
     rw[ej] at b
     have b':(σ[j]?).join=Za v:=Zaj b
     have hσ:σ[j]?=Za (Za v):=by
      cases es:σ[j]? with
      | none=>rw[es] at b';cases b'
      | some o=>rw[es] at b';rw[show o=Za v from b']
     have hz:=kJ (j,x) (List.mem_iff_getElem?.mpr ⟨k,by rw[List.getElem?_zip_eq_some];exact⟨ej,a'⟩⟩)
     obtain⟨hx1,hx2⟩:=hz
     obtain⟨m,hn,hl⟩:=I2.loc
     have hk:=hfree (x,.free) (ZV hx2) rfl
     obtain⟨u,ru,lk⟩:=hl j x v (by rw[hN0];exact hx1) hσ (by rcases hk with q|q;exact .inr (.inl q);exact .inr (.inr q))
     rcases lk with⟨q,_⟩|⟨q,c,hc',hcell⟩
     ·rcases hk with q'|q'<;>(rw[q'] at q;cases q)
     ·obtain⟨kk,ek,hkk⟩:=Je5 (env:=X.env) hx2
      have hcl:=X6 (cells:=X.env.cells) scope.names [] x c (ZV hx2) hc'
      obtain⟨c',hc2⟩:=Za0.mp hcl
      have:=cells' x c' hc2
      rw[hc'] at this
      cases this
      obtain⟨oc,hoc,hd⟩:=hcell
      refine⟨u,ru,.inr ⟨?_,c,hc2,oc,keep23 _ _ hoc,hd⟩⟩
      rcases hkk with rfl|rfl
      ·exact .inl ek
      ·exact .inr ek
   ·obtain⟨v,o,ho,hd⟩:=I2.cell x c (cells' x c q)
    exact⟨v,o,keep23 _ _ ho,hd⟩
  have N3:Now ce (cxC X (loc++caps) scope C s2 H2 fp) [] (ι1++[D]) (stC loc.length js σi) (h1++[.lst []]) (ZN loc.length Zb++js.map λ j=>(σ[j]?).join) H2 { s2 with heap:=h3,toks:=s2.toks+([]:List (Str×Zd)).length }:=by
   refine⟨I3,R3,by simp[stC],λ i v q=>?_⟩
   unfold stC at q
   have hi:loc.length<=i:=by
    refine ZdJ λ hlt=>?_
    rw[Z7 (by simpa using hlt),ZbD] at q
    split at q<;>cases q
   rw[Zu (by simpa using hi)] at q
   simp only[ZbS,Z0] at q
   cases ej:js[i-loc.length]? with
   | none=>rw[ej] at q;cases q
   | some j =>
    rw[ej] at q
    have q':(σi[j]?).join=Za v:=Zaj q
    have hσ:σi[j]?=Za (Za v):=by
     cases es:σi[j]? with
     | none=>rw[es] at q';cases q'
     | some o=>rw[es] at q';rw[show o=Za v from q']
    obtain⟨u,hu,qu⟩:=N2.st.at_ j v hσ
    refine⟨u,?_,qu⟩
    rw[Zu (by simpa using hi)]
    simp only[ZbS,Z0,ej,Zbz,hu]
    rfl
  have st3:tn 0 h3:=T.keep 0 _ _ st2 λ b _ o q=>keep23 b o q
  have K2:QZ ce X use pj (ι1++[D]) σi σ H2 (Qd Jt.chk g mt me h1.length Jt.xs (stC loc.length js σi) (h1++[.lst []])) Q E:=QZ.mono (r:=Qd Jt.chk g mt me h1.length Jt.xs (stC loc.length js σi) (h1++[.lst []])) K (n1.trans n2)
  have loop:ZbW (Z1 X.prog X.w) X.A (.compLoop (.ListComp elt [⟨tg,iter,ifs,0⟩] scope pos) 0 (.ref it) (.ref D) (compEnvC scope (clOf X.env.cells scope.names []) C X.env)) (compPost (Z1 X.prog X.w) X.A E use Q (.ref D) C)
    { s2 with heap:=h3,toks:=s2.toks+([]:List (Str×Zd)).length }:=by
   refine Jiy (λ n s'=>∃k ιk σk hk σ' H',Now ce (cxC X (loc++caps) scope C s2 H2 fp) [] ιk σk hk σ' H' s'/\Nxt (ι1++[D]) H2 ιk H'/\tn k s'.heap/\(∀b∈fp,H' b=Zb)/\n=Jt.xs.length-k/\k<=Jt.xs.length/\QZ ce X use pj ιk σi σ H' (Qd Jt.chk g mt me h1.length (Jt.xs.drop k) σk hk) Q E) ?_ Jt.xs.length
    ⟨0,ι1++[D],stC loc.length js σi,h1++[.lst []],_,H2,N3,.refl,st3,λ b hb=>(f2 b hb).1,by simp,Zal _,by simpa using K2⟩
   have stat:∀{H':Hp},(∀b∈fp,H' b=Zb)->∀b∈fp,FpOk (cxC X (loc++caps) scope C s2 H2 fp) [] H' b:=λ hn b hb =>
    ⟨hn b hb,(okX.exf b hb).1,okX.exfs b hb,.inl hb,(okX.exf b hb).2,λ p hp=>absurd (show p∈([]:PnT) from hp) (by simp)⟩
   rintro n s4 ⟨k,ιk,σk,hk,σ4,H4,N4,n4,st4,fr4,rfl,hkl,K4⟩
   by_cases hlt:k<Jt.xs.length
   ·have hd:Jt.xs.drop k=Jt.xs[k]::Jt.xs.drop (k+1):=Zaw hlt
    rw[hd] at K4
    unfold Qd at K4
    split at K4
    ·rename_i hck
     obtain⟨go,yl⟩:=OK.go k Jt.xs[k] hk H4 ιk (n2.trans n4) N4.rel hck (Zc hlt)
     refine thn (T.item (cxC X (loc++caps) scope C s2 H2 fp) k s4 σ4 H4 (hcc _ _ _ _ _ (n1.trans (n2.trans n4)).ext) N4.inv (stat fr4) st4 go) λ r s5 ⟨u,hr,h5⟩=>?_
     subst hr
     refine thn h5 λ _ s6 ⟨x,H6,I6,r6,y6,st6,fr6⟩=>?_
     obtain⟨R6,n6,q6⟩:=yl x H6 y6
     have I6':=I6.pinned (stat fr6) (T.obj _ _ st6)
     have N6:Now ce (cxC X (loc++caps) scope C s2 H2 fp) ([]++Qz fp s6.heap) ιk σk hk σ4 H6 s6:=⟨I6',R6,N4.st.mono n6⟩
     have again:∀{σ7:L2.St}{H7:Hp}{s7:Zk}{σ7i:ISt}{h7:IH}{ι7:List Zi},Now ce (cxC X (loc++caps) scope C s2 H2 fp) ([]++Qz fp s6.heap) ι7 σ7i h7 σ7 H7 s7->Nxt ιk H6 ι7 H7->QZ ce X use pj ιk σi σ H4 (Qd Jt.chk g mt me h1.length (Jt.xs.drop (k+1)) σ7i h7) Q E ->
       ∃m,m<Jt.xs.length-k/\∃k ιk σk hk σ' H',Now ce (cxC X (loc++caps) scope C s2 H2 fp) [] ιk σk hk σ' H' s7/\Nxt (ι1++[D]) H2 ιk H'/\tn k s7.heap/\(∀b∈fp,H' b=Zb)/\m=Jt.xs.length-k/\k<=Jt.xs.length/\QZ ce X use pj ιk σi σ H' (Qd Jt.chk g mt me h1.length (Jt.xs.drop k) σk hk) Q E :=
      λ {σ7 H7 s7 σ7i h7 ι7} N7 n7 K7=>by
       have nn:Nxt ιk H4 ι7 H7:=n6.trans n7
       refine⟨Jt.xs.length-(k+1),by omega,k+1,ι7,σ7i,h7,σ7,H7,N7.pins,n4.trans nn,T.keep _ _ _ st6 λ b hb o e=>(N7.inv.pin (b,o) (Z4 _ (Z4 _ (XN hb e)))).1,λ b hb=>?_,rfl,hlt,K7.mono nn⟩
       obtain⟨o,e,d⟩:=T.obj _ _ st6 b hb
       exact(N7.inv.pin (b,o) (Z4 _ (Z4 _ (XN hb e)))).2.1
     cases eg:g Jt.xs[k] σk hk with
     | next σg hgg =>
      rw[eg] at K4
      dsimp only at K4
      refine hg C s2 H2 fp _ s6 σ4 H6 ιk σk hk _ u (λ _ s7=>Zq (Z1 X.prog X.w) X.A (forIn ifs Ze λ c r=>if r=Ze then do let ok<-Zex c _ (ZaJ c _);pure (ZaN ok) else pure (ZaN r)) _ _ s7) (λ _ _=>False) N6 ⟨x,r6,q6⟩ ?_
      rw[eg]
      intro s7 σ7 H7 ι7 N7 n7
      refine ht C s2 H2 fp _ s7 σ7 H7 ι7 σg hgg _ (λ _ _=>False) N7 ?_
      cases et:mt σg hgg with
      | ok c h8 =>
       rw[et] at K4
       intro d s8 H8 ι8 N8 n8 rd
       have rd':d=c:=rd
       subst rd'
       cases d with
       | false=>exact again N8 (n7.trans n8) K4
       | true =>
        dsimp only at K4
        refine he C s2 H2 fp _ s8 σ7 H8 ι8 σg h8 _ (λ _ _=>False) N8 ?_
        cases ee:me σg h8 with
        | ok v h9 =>
         rw[ee] at K4
         dsimp only at K4
         intro w s9 H9 ι9 N9 n9 rw9
         have hat9:ι9[h1.length]?=Za D:=(((n4.trans n6).trans n7).trans (n8.trans n9)).at hat
         cases hl:h9[h1.length]? with
         | none=>rw[hl] at K4;exact Zf K4
         | some ob =>
          rw[hl] at K4
          cases ob with
          | lst acc =>
           dsimp only at K4
           split at K4
           ·rename_i hz
            obtain⟨vs,eD,rD⟩:=N9.at hl hat9
            obtain⟨wv,rw9,qw⟩:=rw9
            have ap:=Jji (X:=(cxC X (loc++caps) scope C s2 H2 fp).wish λ _ _=>False) ([]++Qz fp s6.heap) s9 σ7 H9 (.ref D) [wv] (.ref D) [w] (λ _ H'=>H'=upd H9 D (.lst (vs++[wv]))) (N9.inv.wish _) rfl (.cons rw9 .nil) ⟨D,vs,wv,rfl,rfl,eD,by rw[rD.length];exact hz,rfl⟩
            refine ZP ap (λ _ s10 hq=>?_) λ _ _ z=>z
            obtain⟨z,H10,I10,_,rfl⟩:=hq
            have n10:Nxt ι9 H9 ι9 (upd H9 D (.lst (vs++[wv]))):=⟨⟨[],by simp⟩,Ext.upd_mut eD (by rw[eD];exact ZaE)⟩
            obtain⟨R10,_⟩:=N9.rel.write (o:=.lst (vs++[wv])) (io:=.lst (acc++[v])) hat9 eD (by rw[eD];exact ZaE) ⟨_,Jy,(RVs.mono n10 _ _ rD).append (RVs.one (RV.mono n10 _ _ qw))⟩
            exact again ⟨I10.unwish,R10,N9.st.mono n10⟩ (((n7.trans n8).trans n9).trans n10) K4
           ·exact Zf K4
          | _=>exact Zf K4
        | _=>rw[ee] at K4;exact Zf K4
      | _=>rw[et] at K4;exact Zf K4
     | _=>rw[eg] at K4;exact Zf K4
    ·exact Zf K4
   ·have hke:Jt.xs.drop k=[]:=ZcD (by omega)
    rw[hke] at K4
    unfold Qd at K4
    split at K4
    ·rename_i hck
     have stop:=OK.stop k hk H4 ιk (n2.trans n4) N4.rel hck (by omega)
     refine thn (T.done (cxC X (loc++caps) scope C s2 H2 fp) k s4 σ4 H4 (hcc _ _ _ _ _ (n1.trans (n2.trans n4)).ext) N4.inv (stat fr4) st4 stop) λ r s5 ⟨hr,I5⟩=>?_
     subst hr
     obtain⟨m,hnm,_⟩:=I5.loc
     -- back to the def's own frame
     have hos:s5.os=s2.os:=I5.os
     obtain⟨hp5,g5,d5,t5,os5⟩:=s5
     obtain rfl:os5=s2.os:=hos
     have J5:Inv X pj σ H4 { s2 with heap:=hp5,gens:=g5,drawn:=d5,toks:=t5 }:=I2.call (ch:=fp) I5.base I5.hok I5.bare λ b hb=>⟨(f2 b hb).2.2.2.1,(f2 b hb).2.1,(f2 b hb).2.2.2.2.1,(f2 b hb).2.2.2.2.2⟩
     have fC:FpOk X pj H4 C:=I2.fpOk (Zdi hC) I5.free
     exact K4 D C m _ H4 ιk ⟨J5,N4.rel,(N2.st.mono n4)⟩ .refl ⟨.ref D,rfl,D,rfl,n4.at hat⟩ hnm fC
    ·exact Zf K4
  exact codeAny_compStart_list loop (T.self X.A 0 _ _ _ st3 loop)
theorem Now.letgo {pj:PnT}{ι:List Zi}{σi:ISt}{h:IH}{σ:L2.St}{H:Hp}{s:Zk}{C:Zi}{h':ZT}(N:Now ce X pj ι σi h σ H s)(fC:FpOk X pj H C)(sb:Zc7 C s.heap h'):Now ce X pj ι σi h σ H { s with heap:=h' } :=
 ⟨N.inv.turned (it:=C) (t':=s.toks) (λ b o hb q=>(sb.2 b hb).trans q) fC.1 fC.2.1 fC.2.2.2.1 fC.2.2.2.2.1 fC.2.2.2.2.2,N.rel,N.st⟩
theorem Jts {N0 loc caps:List Str}{js:List Nat}{sc₀ scope:Zba}{tg iter elt:Expr}{ifs:List Expr}{mi:I1}{g:G1}{mt:T1}{me:E1}{pos:Pos}(hc:X.calm=Ze)(hi:PIi ce X tg iter mi)
  (hg:∀C s H fp,PGi ce (cxC X (loc++caps) scope C s H fp) tg g)(ht:∀C s H fp,PTsi ce (cxC X (loc++caps) scope C s H fp) ifs mt)(he:∀C s H fp,PEi ce (cxC X (loc++caps) scope C s H fp) elt me)
  (ok:JY N0 loc caps js sc₀ scope=Ze)(hN0:X.N=N0:=by rfl)(hsc:X.env.scope=sc₀:=by rfl)(hs:∀x,Zb3 iter X.env x=pure x:=by intro _;rfl):PEi ce X (.ListComp elt [⟨tg,iter,ifs,0⟩] scope pos) (Js mi loc.length js g mt me):=by
 intro pj s σ H ι σi h Q E N K
 rw[eval_ListComp]
 refine Jf3 hi.c hg ht he ok hN0 hsc hs (λ _ _ _ _ _ _=>⟨rfl,rfl,rfl,hc⟩) N ?_
 cases e0:Js mi loc.length js g mt me σi h with
 | exc n h'=>rw[e0] at K;exact K
 | stuck=>rw[e0] at K;exact K
 | ok v h' =>
  rw[e0] at K
  exact λ D C m s' H' ι' N' n' r hns fC=>⟨m,hns,λ h2 sb=>K _ _ H' ι' (N'.letgo fC sb) n' r⟩
theorem Jt4 {N0 loc caps:List Str}{js:List Nat}{sc₀ scope:Zba}{tg iter elt:Expr}{ifs:List Expr}{mi:I1}{g:G1}{mt:T1}{me:E1}{pos pos2 pos3:Pos}{i:Nat}{x:Str}(hc:X.calm=Ze)(hi:PIi ce X tg iter mi)
  (hg:∀C s H fp,PGi ce (cxC X (loc++caps) scope C s H fp) tg g)(ht:∀C s H fp,PTsi ce (cxC X (loc++caps) scope C s H fp) ifs mt)(he:∀C s H fp,PEi ce (cxC X (loc++caps) scope C s H fp) elt me)
  (ok:JY N0 loc caps js sc₀ scope=Ze)(hN0:X.N=N0:=by rfl)(hsc:X.env.scope=sc₀:=by rfl)(hs:∀x,Zb3 iter X.env x=pure x)
  (hN:X.N.Nodup)(hix:X.N[i]?=Za x)(hlx:Loc X.env.scope x)(hf:X.fn x=Ze∨X.env.scope.names.lookup x=Za .local)
  (hsw:Zc4 (.ListComp elt [⟨tg,iter,ifs,0⟩] scope pos) (Za (.Name x pos2)) pos3.line X.env=pure Ze) :
  PS1 ce X (.Assign [.Name x pos2] (.ListComp elt [⟨tg,iter,ifs,0⟩] scope pos) pos3) (Ji i (Js mi loc.length js g mt me)):=by
 intro pj s σ H ι σi h Q E N K
 rw[exec_Assign_Name_used _ _ _ _ hsw]
 refine Zh (Zb9 (Zh ?_))
 rw[arm_evalThenUse_ListComp]
 refine Zh ?_
 refine Jf3 (use:=Za (Zel (.Name x pos2) X.env)) hi.c hg ht he ok hN0 hsc hs (λ _ _ _ _ _ _=>⟨rfl,rfl,rfl,hc⟩) N ?_
 unfold Ji at K
 cases e0:Js mi loc.length js g mt me σi h with
 | exc n h'=>rw[e0] at K;exact λ pl a s' H' ι' N' n' q=>K pl a s' σ H' ι' N' n' q s' (.inl rfl)
 | stuck=>rw[e0] at K;exact K
 | ok v h' =>
  rw[e0] at K
  intro D C m s' H' ι' N' n' r hns fC
  obtain⟨w,rw',q⟩:=r
  obtain⟨oC,es,ep,hoC,hdC,hrest⟩:=id hns
  have hp:Inv X (pj++Qz [C] s'.heap) σ H' s':=N'.inv.pinned (λ b hb=>(show b=C by simpa using hb)▸fC) (λ b hb=>by
   have e:b=C:=by simpa using hb
   subst e
   exact⟨oC,hoC,λ v z=>by rw[hdC] at z;cases z⟩)
  refine wpAny_assign_Name (XU hp hN hix hlx rw' (λ s2 I2=>?_) hf)
  have hC2:=(I2.pin (C,oC) (Z4 _ (Z4 _ (XN (by simp) hoC)))).1
  refine⟨m,⟨oC,es,ep,hC2,hdC,hrest⟩,λ h2 sb=>Zw ?_⟩
  have N2:Now ce X pj ι' (σi.set i (Za v)) h' (σ.set i (Za w)) H' s2:=⟨I2.unpinned,N'.rel,N'.st.set i q⟩
  exact Zw (K _ _ H' ι' (N2.letgo fC sb) n')
def QT (x:Str):List IV:=x.cps.toList.map λ c=>.str ⟨#[c]⟩
def Its (x:Str):It:=⟨λ i _=>i<x.cps.size,λ i H y H'=>H'=H/\∃c,x.cps[i]?=Za c/\y=.str ⟨#[c]⟩,λ i _=>x.cps.size<=i⟩
theorem Jlt {P:ZA}{w:ZM}{K:W.Frag}{tg:Expr}{ty:String}{x:Str}{t:Tok}(it:Zi)(hty:["enumerate","zip","dict_itemiterator","dict_reverseitemiterator","odict_iterator","itertools.zip_longest","itertools.pairwise"].contains ty=Zj)
  (W:∀A:ZG,A.handled=Zb->Walks P w A it [it] [it] x.cps.size (SignAt x) (λ i h=>h.IsStrIter it ty x t i))
  (We:∀(A:ZG)(E:QvT)(s:Zk)(i:Nat)(Q:Option Zd->Zk->Prop),A.handled=Zb->s.heap.IsStrIter it ty x t i->x.cps[i]?=Zb->(∀h',Zek it s.heap h'->Q Zb { s with heap:=h' })->Zq (Z1 P w) A (Zcp (.ref it)) Q E s)
  (Ws:∀(A:ZG)(E:QvT)(s:Zk)(i:Nat)(Q:QvT),s.heap.IsStrIter it ty x t i->Q (.ref it) s->Zq (Z1 P w) A (Zey (.ref it)) Q E s):Turn P w K tg (Its x) [it] it (λ i h=>h.IsStrIter it ty x t i) where
 mem:=by simp
 obj:=λ i h st b hb=>by
  have e:b=it:=by simpa using hb
  subst e
  obtain⟨o,e,c,d⟩:=st
  exact⟨o,e,λ v z=>by rw[d] at z;cases z⟩
 keep:=λ i h h' st k=>by
  obtain⟨o,e,r⟩:=st
  exact⟨o,k it (by simp) o e,r⟩
 item:=by
  intro X hP hw hK hc i pj s σ H E I hf st hg
  subst hP hw hK
  obtain⟨f0,f1,f2,f3,f4,f5⟩:=hf it (by simp)
  refine(W X.A (I.ok.hd hc)).item i s _ _ hg st λ v h' tk hv st' kk=>?_
  obtain⟨c,u,hcc,rfl⟩:=hv
  have I1:Inv X pj σ H { s with heap:=h',toks:=tk }:=I.turned (λ b o hb e=>kk b o (by simpa using hb) e) f0 f1 f3 f4 f5
  obtain⟨o,e,c1,d1⟩:=id st'
  exact⟨_,rfl,VZ (s:={ s with heap:=h',toks:=tk }) e c1 d1 hty ⟨.str ⟨#[c]⟩,H,I1,⟨u,rfl⟩,⟨rfl,c,hcc,rfl⟩,st',λ b hb=>(hf b hb).1⟩⟩
 done:=by
  intro X hP hw hK hc i pj s σ H E I hf st hg
  subst hP hw hK
  obtain⟨f0,f1,f2,f3,f4,f5⟩:=hf it (by simp)
  have hi:x.cps.size<=i:=hg
  have hx:x.cps[i]?=Zb:=by simp[hi]
  exact We X.A _ s i _ (I.ok.hd hc) st hx λ h' eb=>⟨rfl,I.turned (t':=s.toks) (λ b o hb e=>eb b o hb e) f0 f1 f3 f4 f5⟩
 self:=λ A i s Q E st h=>Ws A E s i Q st h
def Jr4:IV->IH->Res ItI
 | .str x,h=>.ok ⟨QT x,λ _=>True⟩ h
 | _,_=>.stuck
def iStr (e:E1):I1:=λ σ h=>(e σ h).bind Jr4
theorem Jtx {x:Str}{ι:List Zi}{H₀:Hp}:ItOk ce X.K ι H₀ (Its x) ⟨QT x,λ _=>True⟩:=by
 refine⟨λ k v h H ι' hp R hck hx=>?_,λ k h H ι' hp R hck hx=>?_⟩
 ·have hk:k<x.cps.size:=by
   have:=(Zn.mp hx).1
   simpa [QT] using this
  refine⟨hk,λ y H' hy=>?_⟩
  obtain⟨rfl,c,hc,rfl⟩:=hy
  simp only[QT,Z0,Zee,hc] at hx
  cases hx
  exact⟨R,.refl,rfl⟩
 ·have:(QT x).length=x.cps.size:=by simp[QT]
  show x.cps.size<=k
  rw[<- this]
  exact hx
theorem Jmp {tg l:Expr}{ml:E1}(hl:PEi ce X l ml):PIi ce X tg l (iStr ml):=by
 intro pj s σ H ι σi h Q E N K
 refine hl pj s σ H ι σi h _ E N ?_
 unfold iStr at K
 cases e0:ml σi h with
 | exc n h'=>rw[e0] at K;exact K
 | stuck=>rw[e0] at K;exact K
 | ok v h' =>
  rw[e0] at K
  intro u s1 H1 ι1 N1 n1 r1
  obtain⟨w,rw',q⟩:=r1
  have Zeb:∀b∈[s1.heap.objs.size],FpOk X pj H1 b:=λ b hb=>by
   have e:b=s1.heap.objs.size:=by simpa using hb
   subst e
   exact N1.inv.fpOk (Zr _) (N1.inv.hok.fresh (Zr _))
  cases v with
  | str x =>
   have e1:w=.str x:=q
   subst e1
   obtain⟨t,rfl⟩:=rw'
   simp only[Res.bind,Jr4] at K
   cases ha:x.cps.all (· < 128) with
   | true =>
    refine wpAny_pyIter_ascii ha (K _ _ H1 ι1 ⟨N1.inv.kept (t':=s1.toks) λ b o e=>Zg _ e,N1.rel,N1.st⟩ n1 ?_)
    exact⟨s1.heap.objs.size,[s1.heap.objs.size],_,Its x,rfl,Jlt (ty:="str_ascii_iterator") (t:=t) _ (by decide) (λ A hA=>Walks.strAscii hA _ x t) (λ A E s i Q hA st hx hQ=>wpAny_pyNext_ascii_end hA st hx hQ) (λ A E s i Q st hq=>wpAny_pyIter_striter_ascii st hq),⟨_,Zy _ rfl,rfl,rfl⟩,Zeb,Jtx⟩
   | false =>
    refine wpAny_pyIter_wide ha (K _ _ H1 ι1 ⟨N1.inv.kept (t':=s1.toks) λ b o e=>Zg _ e,N1.rel,N1.st⟩ n1 ?_)
    exact⟨s1.heap.objs.size,[s1.heap.objs.size],_,Its x,rfl,Jlt (ty:="str_iterator") (t:=t) _ (by decide) (λ A hA=>Walks.strWide hA _ x t) (λ A E s i Q hA st hx hQ=>wpAny_pyNext_wide_end hA st hx hQ) (λ A E s i Q st hq=>wpAny_pyIter_striter_wide st hq),⟨_,Zy _ rfl,rfl,rfl⟩,Zeb,Jtx⟩
  | _=>simp only[Res.bind,Jr4] at K
def Ite (K:W.Frag)(a:Zi):It :=
 ⟨λ i H=>∃xs x,SqL K H a xs/\xs[i]?=Za x,λ i H y H'=>∃p x,H p=Zb/\y=.ref p/\H'=upd H p (.tup [.int (i:Int),x])/\∀xs,SqL K H a xs->xs[i]?=Za x,λ i H=>∃xs,SqL K H a xs/\xs.length<=i⟩
theorem Jp7 {P:ZA}{w:ZM}{K:W.Frag}{es:List Expr}{k:Nat}{p:Pos}(a it e:Zi)(hne:e≠it):Turn P w K (.Tuple es k p) (Ite K a) [e,it] e (λ i h=>(∃old,IsEnum h e it (i:Int) old)/\h.IsListIter it a i) where
 mem:=by simp
 obj:=λ i h st b hb=>by
  obtain⟨⟨old,he⟩,o,e1,c,d⟩:=st
  simp only[ZB,ZaC,or_false] at hb
  rcases hb with rfl|rfl
  ·exact⟨_,he,λ v z=>by
    have z':Data.fields _=ZeC v:=z
    cases z'⟩
  ·exact⟨o,e1,λ v z=>by rw[d] at z;cases z⟩
 keep:=λ i h h' st k=>⟨let ⟨old,he⟩:=st.1;⟨old,k e (by simp) _ he⟩,st.2.at λ o e=>k it (by simp) o e⟩
 item:=by
  intro X hP hw hK hc i pj s σ H E I hf st hg
  subst hP hw hK
  obtain⟨⟨old,he⟩,hit⟩:=st
  obtain⟨xs,x,hq,hx⟩:=hg
  obtain⟨its,rv,pl,hz⟩:=I.list hq
  obtain⟨u,hu,ru⟩:=rv.get hx
  have fe:=hf e (by simp)
  have fi:=hf it (by simp)
  have hn:H s.heap.objs.size=Zb:=I.hok.fresh (Zr _)
  refine wpAny_pyNext_enum_item he hit pl.isList (x:=u) (by simpa using hu) hne λ h' he' hit' ht hsz kk=>?_
  refine⟨_,rfl,wpAny_letOwnedTupleGo_enum he' λ h2 he2 sb=>?_⟩
  have ltE:e<s.heap.objs.size:=Zx he
  have neT:s.heap.objs.size≠e:=Zbq ltE
  have k2:∀b o,b≠e->b≠it->s.heap.get? b=Za o->h2.get? b=Za o:=λ b o h1 h3 q=>(sb.2 b h1).trans (kk b o h1 h3 q)
  have hl2:h2.IsListIter it a (i+1):=by
   obtain⟨o,q,r⟩:=hit'
   exact⟨o,(sb.2 it (ZW hne)).trans q,r⟩
  have t2:h2.get? s.heap.objs.size=Za { cls:=.type "tuple",data:=.seq #[.int i s.toks,u] }:=(sb.2 _ neT).trans ht
  -- the two records turn, then the tuple is tracked
  obtain⟨oe,hoe⟩:∃o,s.heap.get? e=Za o:=⟨_,he⟩
  obtain⟨oi,hoi,_⟩:=id hit
  have neP:∀b u,H b=Za u->b≠s.heap.objs.size:=λ b u q=>QR q hn
  have I1:Inv X pj σ (upd H s.heap.objs.size (.tup [.int (i:Int),x])) { s with heap:=h2,toks:=s.toks+1 }:=by
   refine I.step (g':=s.gens) (d':=s.drawn) (ch:=[e,it]) (λ b hb=>?_) (λ b o _ _ hc q _=>k2 b o (λ z=>hc (by simp[z])) (λ z=>hc (by simp[z])) q) (λ b o _ _ hc q _=>⟨o.slots,k2 b o (λ z=>hc (by simp[z])) (λ z=>hc (by simp[z])) q⟩) (λ b o _ q n=>?_)
    (λ b o hc q=>⟨o,k2 b o (λ z=>hc (by simp[z])) (λ z=>hc (by simp[z])) q⟩) (λ b xs q=>by rw[Jo (neP b _ q)];exact q) (λ b o u q=>by rw[Jo (neP b _ q)];exact q) (λ b ps q=>⟨#[],by rw[Jo (neP b _ q),q];simp⟩) (λ m hm=>?_) (λ b u q=>?_) I.bare
   ·simp only[ZB,ZaC,or_false] at hb
    rcases hb with rfl|rfl
    ·exact⟨fe.2.2.2.1,fe.2.1,fe.2.2.2.2.1,fe.2.2.2.2.2⟩
    ·exact⟨fi.2.2.2.1,fi.2.1,fi.2.2.2.2.1,fi.2.2.2.2.2⟩
   ·rw[Jo (ZD (Zx q))];exact n
   ·obtain⟨o,es,ep,ho,r⟩:=hm
    exact⟨o,es,ep,k2 _ o (ZW fe.2.1) (ZW fi.2.1) ho,r⟩
   ·by_cases hb:b=s.heap.objs.size
    ·subst hb
     rw[Jy] at q
     cases q
     exact⟨by show 2<=sizeLine;decide,[.int i s.toks,u],.cons ⟨_,rfl⟩ (.cons ru .nil),⟨_,t2,rfl,_,rfl⟩⟩
    ·rw[Jo hb] at q
     have n1:b≠e:=λ z=>by rw[z,fe.1] at q;cases q
     have n2:b≠it:=λ z=>by rw[z,fi.1] at q;cases q
     refine(I.hok b u q).stay (λ c v hc r=>k2 c v ?_ ?_ r) (λ c q=>by rw[Jo (neP c _ q)];exact q) λ c ys q=>by rw[Jo (neP c _ q)];exact q
     ·rcases hc with z|z
      ·rw[z];exact n1
      ·intro y;rw[y,fe.1] at z;cases z
     ·rcases hc with z|z
      ·rw[z];exact n2
      ·intro y;rw[y,fi.1] at z;cases z
  refine⟨.ref s.heap.objs.size,_,I1,rfl,⟨s.heap.objs.size,x,hn,rfl,rfl,λ ys hy=>by rw[I.list_inj hy hq];exact hx⟩,⟨⟨_,he2⟩,hl2⟩,λ b hb=>?_⟩
  simp only[ZB,ZaC,or_false] at hb
  rcases hb with rfl|rfl
  ·rw[Jo (ZD ltE)];exact fe.1
  ·rw[Jo (ZD (Zx hoi))];exact fi.1
 done:=by
  intro X hP hw hK hc i pj s σ H E I hf st hg
  subst hP hw hK
  obtain⟨⟨old,he⟩,hit⟩:=st
  obtain⟨xs,hq,hx⟩:=hg
  obtain⟨its,rv,p,hz⟩:=I.list hq
  obtain⟨f0,f1,f2,f3,f4,f5⟩:=hf it (by simp)
  have hl:=rv.length
  exact wpAny_pyNext_enum_end (I.ok.hd hc) he hit p.isList (by simp;omega) λ h' eb=>⟨rfl,I.turned (t':=s.toks) (λ b o hb e=>eb b o hb e) f0 f1 f3 f4 f5⟩
 self:=λ _ _ _ _ _ st h=>let ⟨_,he⟩:=st.1;wpAny_pyIter_enum he h
noncomputable def Qo (n:Nat):List IV->List IV
 | []=>[]
 | x::xs=>.tup [.int n,x]::Qo (n+1) xs
theorem Jf5:∀(xs:List IV)(n k:Nat),(Qo n xs)[k]?=(xs[k]?).map λ x=>.tup [.int ((n+k:Nat):Int),x]
 | [],_,_=>by simp[Qo]
 | x::xs,n,0=>by simp[Qo]
 | x::xs,n,k+1=>by
  simp only[Qo,ZS]
  rw[Jf5 xs (n+1) k]
  have:n+1+k=n+(k+1):=by omega
  rw[this]
theorem XG:∀(xs:List IV)(n:Nat),(Qo n xs).length=xs.length
 | [],_=>rfl
 | _::xs,n=>by simp[Qo,XG xs]
def QN:List IV->IH->Res ItI
 | [.ref i],h=>match h[i]? with
  | some (.lst xs)=>.ok ⟨Qo 0 xs,λ h'=>h'[i]?=Za (.lst xs)⟩ h
  | _=>.stuck
 | _,_=>.stuck
theorem Jyg {a:Zi}{i:Nat}{xs:List IV}{ι:List Zi}{H₀:Hp}(ha:ι[i]?=Za a):ItOk ce X.K ι H₀ (Ite X.K a) ⟨Qo 0 xs,λ h'=>h'[i]?=Za (.lst xs)⟩:=by
 refine⟨λ k v h H ι' hp R hck hx=>?_,λ k h H ι' hp R hck hx=>?_⟩
 ·obtain⟨vs,e1,r1⟩:=R.get hck (hp.at ha)
  have hx':(Qo 0 xs)[k]?=Za v:=hx
  rw[Jf5] at hx'
  obtain⟨x,hxk,rfl⟩:=Z5.mp hx'
  obtain⟨u,hu,qu⟩:=r1.get hxk
  refine⟨⟨vs,u,SqL.of e1,hu⟩,λ y H' hy=>?_⟩
  obtain⟨p,x',hp0,rfl,rfl,hy⟩:=hy
  have:=hy vs (SqL.of e1)
  rw[hu] at this
  cases this
  obtain⟨R',n'⟩:=R.grow (o:=.tup [.int (k:Int),u]) hp0
  refine⟨R',n',p,_,rfl,SqT.of Jy,⟨_,_,rfl,?_,_,_,rfl,RV.mono n' _ _ qu,rfl⟩⟩
  show V.int (k:Int)=V.int ((0+k:Nat):Int)
  simp
 ·obtain⟨vs,e1,r1⟩:=R.get hck (hp.at ha)
  exact⟨vs,SqL.of e1,by rw[r1.length,<-XG xs 0];exact hx⟩
theorem Jx3 {es:List Expr}{kt:Nat}{pt:Pos}{a:Expr}{ma:A1}{p pos:Pos}(hg:Gl X "enumerate")(hm:X.mg "enumerate"=Zb)(ha:PAi ce X [a] ma)(hs:Z9 [a] X.env=[(Zj,ZaJ a X.env)]:=by rfl):PIi ce X (.Tuple es kt pt) (.Call (.Name "enumerate" p) [a] [] pos) (iRg QN ma):=by
 intro pj s σ H ι σi h Q E N K
 refine Call_ (Qg N.inv hg hm boot_enumerate (Zaa ?_ hs rfl))
 refine ha pos pj s σ H ι σi h _ E N ?_
 unfold iRg at K
 cases e0:ma σi h with
 | exc n h'=>rw[e0] at K;exact K
 | stuck=>rw[e0] at K;exact K
 | ok vs h' =>
  rw[e0] at K
  intro us s1 H1 ι1 N1 n1 r1
  obtain⟨xs,rv,qs⟩:=r1
  match vs,K with
  | [.ref i],K =>
   obtain⟨w,e1,q⟩:=qs.one_of
   subst e1
   obtain⟨b,e3,hb⟩:=q
   subst e3
   obtain⟨u,rfl,ru⟩:=Qq rv
   cases ru
   cases hi:h'[i]? with
   | none=>simp only[Res.bind,QN,hi] at K
   | some ob =>
    cases ob with
    | lst ys =>
     simp only[Res.bind,QN,hi] at K
     obtain⟨ws,eH,rH⟩:=N1.at hi hb
     obtain⟨z,its,n,r,hl,eo⟩:=N1.inv.lstM eH
     refine call_enumerate_1 eo λ h2 he hit hsz kp=>?_
     refine wpAny_pyIter_enum he (K _ _ H1 ι1 ⟨N1.inv.kept (t':=s1.toks) kp,N1.rel,N1.st⟩ n1 ?_)
     refine⟨s1.heap.objs.size+1,[s1.heap.objs.size+1,s1.heap.objs.size],_,Ite X.K b,rfl,Jp7 b s1.heap.objs.size (s1.heap.objs.size+1) (Zbq (ZaR _)),⟨⟨_,he⟩,hit⟩,λ c hc=>?_,Jyg hb⟩
     simp only[ZB,ZaC,or_false] at hc
     rcases hc with rfl|rfl
     ·exact N1.inv.fpOk (Zao _) (N1.inv.hok.fresh (Zao _))
     ·exact N1.inv.fpOk (Zr _) (N1.inv.hok.fresh (Zr _))
    | _=>simp only[Res.bind,QN,hi] at K
  | [],K=>exact Zf K
  | .non::_,K=>exact Zf K
  | .bl _::_,K=>exact Zf K
  | .str _::_,K=>exact Zf K
  | .tup _::_,K=>exact Zf K
  | .rol _::_,K=>exact Zf K
  | .int _::_,K=>exact Zf K
  | .ref _::_::_,K=>exact Zf K
end
noncomputable def Xb:IV->IH->Res ItI
 | .str x,h=>Jr4 (.str x) h
 | v,h=>itOf v h
def J0 (e:E1):I1:=λ σ h=>(e σ h).bind Xb
theorem Jru {ce:CeT}{X:Cx}{tg l:Expr}{ml:E1}(hl:PEi ce X l ml):PIi ce X tg l (J0 ml):=by
 intro pj s σ H ι σi h Q E N K
 cases e0:ml σi h with
 | ok v h' =>
  cases v with
  | str x=>exact Jmp (tg:=tg) hl pj s σ H ι σi h Q E N (by unfold iStr;unfold J0 at K;rw[e0] at K ⊢;exact K)
  | _=>exact Jot (tg:=tg) hl pj s σ H ι σi h Q E N (by unfold iVal;unfold J0 at K;rw[e0] at K ⊢;exact K)
 | exc n h'=>exact Jot (tg:=tg) hl pj s σ H ι σi h Q E N (by unfold iVal;unfold J0 at K;rw[e0] at K ⊢;exact K)
 | stuck=>exact Jot (tg:=tg) hl pj s σ H ι σi h Q E N (by unfold iVal;unfold J0 at K;rw[e0] at K ⊢;exact K)
section
variable {ce:CeT}{X:Cx}
theorem x_sl:SlI ce X slI:=by
 intro pj s σ H ι σi h x v vl vu lo hi sl Q E N rx hs pl pu K
 obtain⟨xv,rx,qx⟩:=rx
 cases x with
 | ref i =>
  obtain⟨a,e1,ha⟩:=qx
  subst e1
  dsimp only[slI] at K
  cases hi':h[i]? with
  | none=>rw[hi'] at K;exact Zf K
  | some ob =>
   rw[hi'] at K
   cases ob with
   | lst xs =>
    obtain⟨vs,e1,r1⟩:=N.at hi' ha
    exact Jud (Jpr (X:=X.wish E)) N.inv rx hs pl pu ⟨a,vs,rfl,SqL.of e1,λ p hp=>finA N K p hp ⟨_,Jy,RVs.new hp (r1.cut lo hi)⟩⟩
   | _=>exact Zf K
 | rol xs =>
  obtain⟨a,vs,e1,sa,ra⟩:=qx
  subst e1
  exact Jud (Jpr (X:=X.wish E)) N.inv rx hs pl pu ⟨a,vs,rfl,sa.sq,λ p hp=>finA N K p hp ⟨_,Jy,RVs.new hp (ra.cut lo hi)⟩⟩
 | _=>exact Zf K
noncomputable def Qp:IV->IH->Res IV
 | .ref i,h=>match h[i]? with
  | some (.lst xs)=>.ok (.ref h.length) (h++[.lst xs])
  | _=>.stuck
 | .rol xs,h=>.ok (.ref h.length) (h++[.lst xs])
 | .tup xs,h=>.ok (.ref h.length) (h++[.lst xs])
 | _,_=>.stuck
theorem Jxm:Qu ce X (.type "list") (on1 Qp):=V8 λ pj s σ H ι σi h x xv u Q E N ru qx K=>by
 cases x with
 | ref i =>
  obtain⟨a,e1,ha⟩:=qx
  subst e1
  dsimp only[Qp] at K
  cases hi:h[i]? with
  | none=>rw[hi] at K;exact Zf K
  | some ob =>
   rw[hi] at K
   cases ob with
   | lst xs =>
    obtain⟨vs,e1,r1⟩:=N.at hi ha
    exact QI (Jcx (X:=X.wish E)) N.inv (.cons ru .nil) ⟨a,vs,rfl,.inl (SqL.of e1),λ p hp=>finA N K p hp ⟨_,Jy,RVs.new hp r1⟩⟩
   | _=>exact Zf K
 | rol xs =>
  obtain⟨a,vs,e1,sa,ra⟩:=qx
  subst e1
  exact QI (Jcx (X:=X.wish E)) N.inv (.cons ru .nil) ⟨a,vs,rfl,.inl sa.sq,λ p hp=>finA N K p hp ⟨_,Jy,RVs.new hp ra⟩⟩
 | tup xs =>
  obtain⟨a,vs,e1,sa,ra⟩:=qx
  subst e1
  exact QI (Jcx (X:=X.wish E)) N.inv (.cons ru .nil) ⟨a,vs,rfl,.inr sa,λ p hp=>finA N K p hp ⟨_,Jy,RVs.new hp ra⟩⟩
 | _=>exact Zf K
noncomputable def VJ:IV->IH->Res IV
 | .ref i,h=>match h[i]? with
  | some (.lst xs)=>.ok (.tup xs) h
  | _=>.stuck
 | .tup xs,h=>.ok (.tup xs) h
 | _,_=>.stuck
theorem Jun:Qu ce X (.type "tuple") (on1 VJ):=V8 λ pj s σ H ι σi h x xv u Q E N ru qx K=>by
 cases x with
 | ref i =>
  obtain⟨a,e1,ha⟩:=qx
  subst e1
  dsimp only[VJ] at K
  cases hi:h[i]? with
  | none=>rw[hi] at K;exact Zf K
  | some ob =>
   rw[hi] at K
   cases ob with
   | lst xs =>
    obtain⟨vs,e1,r1⟩:=N.at hi ha
    exact QI (Jd2 (X:=X.wish E)) N.inv (.cons ru .nil) ⟨a,vs,rfl,.inl ⟨SqL.of e1,λ p hp=>finT N K p hp r1⟩⟩
   | _=>exact Zf K
 | tup xs =>
  have qx':=qx
  obtain⟨a,vs,e1,sa,ra⟩:=qx
  subst e1
  exact QI (Jd2 (X:=X.wish E)) N.inv (.cons ru .nil) ⟨a,vs,rfl,.inr ⟨sa,fin0 N K qx'⟩⟩
 | _=>exact Zf K
def Ve:List IV->Option (List Bool)
 | []=>Za []
 | .bl b::r=>(Ve r).map (b:: ·)
 | _::_=>Zb
noncomputable def allI:IV->IH->Res IV
 | .ref i,h=>match h[i]? with
  | some (.lst xs)=>(match Ve xs with
   | some bs=>.ok (.bl (bs.all id)) h
   | none=>.stuck)
  | _=>.stuck
 | _,_=>.stuck
theorem Jhn {K:W.Frag}{ι:List Zi}{H:Hp}:∀{xs:List IV}{bs:List Bool}{vs:List V}{us:List Zd},Ve xs=Za bs->RVs K ι H xs vs->Vals vs us->us=bs.map Zcx
 | [],bs,vs,us,e,q,r=>by
  cases e
  have e1:vs=[]:=q
  subst e1
  cases r
  rfl
 | x::xs,bs,vs,us,e,q,r=>by
  obtain⟨v,vr,e1,q1,q2⟩:=q
  subst e1
  cases r with
  | cons r1 r2 =>
   cases x with
   | bl b =>
    obtain⟨b2,e2,rfl⟩:=Z5.mp (show(Ve xs).map (b:: ·)=Za bs from e)
    cases (show v=.bl b from q1)
    cases r1
    rw[Jhn e2 q2 r2]
    rfl
   | _=>cases e
theorem Jnk (bs:List Bool):((Z8 bs.length).all λ i=>bs.getD i Ze)=bs.all id:=by
 induction bs with
 | nil=>rfl
 | cons b r ih =>
  rw[ZC,ZdV,ZY,List.all_map,ZY]
  have e:((Z8 r.length).all ((λ i=>(b::r).getD i Ze)∘Nat.succ))=(Z8 r.length).all λ i=>r.getD i Ze:=by
   congr 1
  rw[e,ih]
  rfl
theorem J0l (hh:X.A.handled=Zb):Qu ce X (.builtin "all") (on1 allI):=V8 λ pj s σ H ι σi h x xv u Q E N ru qx K=>by
 cases x with
 | ref i =>
  obtain⟨a,e1,ha⟩:=qx
  subst e1
  cases ru
  dsimp only[allI] at K
  cases hi:h[i]? with
  | none=>rw[hi] at K;exact Zf K
  | some ob =>
   rw[hi] at K
   cases ob with
   | lst xs =>
    dsimp only at K
    cases hb:Ve xs with
    | none=>rw[hb] at K;exact Zf K
    | some bs =>
     rw[hb] at K
     obtain⟨vs,e1,r1⟩:=N.at hi ha
     obtain⟨its,rv,pl,hz⟩:=N.inv.list (SqL.of e1)
     have eu:=Jhn hb r1 rv
     subst eu
     refine call_all_walk (ZaV pl.isList ?_)
     have hlt:a<s.heap.objs.size:=by obtain⟨o,_,ho,_⟩:=pl;exact Zx ho
     have ne:a≠s.heap.objs.size:=ZD hlt
     refine⟨s.heap.objs.size,_,_,_,_,_,λ i=>bs.getD i Ze,rfl,Zdv (prog:=X.prog) (w:=X.w) (A:=X.A.in1) hh s.heap.objs.size a ne (bs.map Zcx).toArray,⟨⟨_,Zy _ rfl,rfl,rfl⟩,?_⟩,?_,λ h' tk kk=>?_⟩
     ·obtain⟨o,n,ho,hc,_,hd⟩:=pl
      exact⟨o,Zg _ ho,hc,n,hd⟩
     ·intro i v s' Q' E' hP hq
      simp only[ZcI,Z0] at hP
      obtain⟨b,hb',rfl⟩:=Z5.mp hP
      refine Zbl ?_
      have:bs.getD i Ze=b:=by simp[List.getD,hb']
      rw[<- this]
      exact hq
     ·rw[show(bs.map Zcx).toArray.size=bs.length by simp,Jnk]
      have I1:Inv X pj σ H { s with heap:=s.heap.push { cls:=.type "list_iterator",data:=.fields #[.ref a,.int 0 0] } }:=N.inv.kept (t':=s.toks) λ b o e=>Zg _ e
      have f:=N.inv.fpOk (Zr _) (N.inv.hok.fresh (Zr _))
      exact fin0 N K rfl _ _ (I1.turned (t':=tk) (it:=s.heap.objs.size) (λ b o hb e=>kk b o (by simpa using hb) e) f.1 f.2.1 f.2.2.2.1 f.2.2.2.2.1 f.2.2.2.2.2) rfl
   | _=>exact Zf K
 | _=>exact Zf K
def MtI (ce:CeT)(X:Cx)(T id:String)(g:IV->List IV->IH->Res IV):Prop :=
 ∀(pj:PnT)(s:Zk)(σ:L2.St)(H:Hp)(ι:List Zi)(σi:ISt)(h:IH)(x:IV)(xs:List IV)(v:Zd)(us:List Zd)(Q:QvT)(E:QvT),Now ce X pj ι σi h σ H s->RU X.K ι H x v->RUs X.K ι H xs us ->
  Kont ce X RU pj ι σi σ H (g x xs h) Q E->Zq (Z1 X.prog X.w) X.A (call (.builtin id) (v::us)) Q E s
def tyOk (T:String):IV->IH->Bool
 | .str _,_=>T=="str"
 | .int _,_=>T=="int"
 | .ref i,h=>match h[i]? with
  | some (.lst _)=>T=="list"
  | some (.dct _)=>T=="dict"
  | _=>Zj
 | .rol _,_=>T=="list"
 | _,_=>Zj
def eBm (T:String)(g:IV->List IV->IH->Res IV)(o:E1)(a:A1):E1:=λ σ h=>(o σ h).bind λ x h1=>if tyOk T x h1=Ze then(a σ h1).bind λ xs h2=>g x xs h2 else .stuck
theorem Jub {pj:PnT}{s:Zk}{σ:L2.St}{H:Hp}{ι:List Zi}{σi:ISt}{h:IH}{x:IV}{xv:V}{T:String}(N:Now ce X pj ι σi h σ H s)(q:RV X.K ι H x xv)(e:tyOk T x h=Ze):tyV X.K T xv H:=by
 cases x with
 | str y=>cases (show xv=.str y from q);exact beq_iff_eq.mp e
 | int y=>cases (show xv=.int y from q);exact beq_iff_eq.mp e
 | rol y =>
  obtain⟨a,vs,rfl,sa,_⟩:=q
  exact .inl ⟨beq_iff_eq.mp e,vs,sa.sq⟩
 | ref i =>
  obtain⟨a,rfl,ha⟩:=q
  cases hi:h[i]? with
  | none=>simp[tyOk,hi] at e
  | some ob =>
   cases ob with
   | lst xs =>
    simp only[tyOk,hi] at e
    obtain⟨vs,e1,_⟩:=N.at hi ha
    exact .inl ⟨beq_iff_eq.mp e,vs,SqL.of e1⟩
   | dct kvs =>
    simp only[tyOk,hi] at e
    obtain⟨vs,e1,_⟩:=N.at hi ha
    exact .inr (.inr (.inl ⟨beq_iff_eq.mp e,.inl ⟨vs,e1⟩⟩))
   | _=>simp[tyOk,hi] at e
 | _=>simp[tyOk] at e
variable {o a:Expr}{es:List Expr}{mo:E1}{ma:A1}{name:Str}{apos cpos:Pos}{T id:String}{g:IV->List IV->IH->Res IV}
theorem i_bm (pa:PlainAttrs T)(slot:Slot T name id)(hty:ZdT (.builtin id)=pure (.type "method_descriptor"))(hm:MtI ce X T id g)(ho:PEi ce X o mo)(ha:PAi ce X (a::es) ma)
  (hbase:Zcs o name X.env (ZaJ o X.env)=ZaJ o X.env:=by rfl)
  (hfew:((ZaU cpos (Z9 (a::es) X.env)).all (λ x=>!x.1)&&(ZdO cpos (Zc5 [] X.env)).all (λ x=>x.1.isSome)
   && decide ((a::es).length+([]:List Zdj).length+(if ([]:List Zdj).isEmpty then 0 else 1)<30))=Ze:=by rfl)
  (hline:(apos.endLine==cpos.line)=Ze:=by rfl) (hs:Z9 (a::es) X.env=(Zj,ZaJ a X.env)::Z9 es X.env:=by rfl) (hplain:(ZaU cpos (Z9 es X.env)).any (·.1)=Zj:=by rfl) :
  PEi ce X (.Call (.Attribute o name apos) (a::es) [] cpos) (eBm T g mo ma):=by
 intro pj s σ H ι σi h Q E N K
 refine wpAny_Call_method_late hbase hfew hline rfl (ho.run N K λ x h1 v s1 H1 ι1 N1 n1 r1 K1=>?_)
 by_cases hty1:tyOk T x h1=Ze
 ·rw[if_pos hty1] at K1
  obtain⟨xv,rx,qx⟩:=r1
  obtain⟨h1',h2'⟩:=Juc N1.inv rx (Jub N1 qx hty1)
  refine⟨T,id,pa,slot,hty,h1',h2',?_⟩
  have hA:=(ha cpos).run (Q1:=λ us s2=>Zq (Z1 X.prog X.w) X.A (call (.builtin id) (v::us)) Q E s2) N1 K1 λ xs h2 us s2 H2 ι2 N2 n2 r2 K2=>hm pj s2 σ H2 ι2 σi h2 x xs v us Q E N2 ⟨xv,rx,RV.mono n2 _ _ qx⟩ r2 K2
  rw[hs] at hA ⊢
  exact ZdW (by show(Zj||(ZaU cpos (Z9 es X.env)).any (·.1))=Zj;rw[hplain]<;>rfl) (Calls.evalArgs_plain hA)
 ·rw[if_neg hty1] at K1
  exact Zf K1
theorem J0w (pa:PlainAttrs T)(slot:Slot T name id)(hty:ZdT (.builtin id)=pure (.type "method_descriptor"))(hm:MtI ce X T id g)(ho:PEi ce X o mo)
  (hbase:Zcs o name X.env (ZaJ o X.env)=ZaJ o X.env:=by rfl)(hline:(apos.endLine==cpos.line)=Ze:=by rfl):PEi ce X (.Call (.Attribute o name apos) [] [] cpos) (eBm T g mo Jd):=by
 intro pj s σ H ι σi h Q E N K
 refine wpAny_Call_method0_late hbase hline (ho.run N K λ x h1 v s1 H1 ι1 N1 n1 r1 K1=>?_)
 by_cases hty1:tyOk T x h1=Ze
 ·rw[if_pos hty1] at K1
  obtain⟨xv,rx,qx⟩:=r1
  obtain⟨h1',h2'⟩:=Juc N1.inv rx (Jub N1 qx hty1)
  exact⟨T,id,pa,slot,hty,h1',h2',ZdW rfl (PySem.evalArgs_none (hm pj s1 σ H1 ι1 σi h1 x [] v [] Q E N1 ⟨xv,rx,qx⟩ .nil K1))⟩
 ·rw[if_neg hty1] at K1
  exact Zf K1
theorem Jp9 {pj:PnT}{s:Zk}{σ:L2.St}{H:Hp}{Q:QvT}{E:QvT}{r:V->List V->Hp->VK->Prop}{x:V}{xs:List V}{v:Zd}{us:List Zd}(p:MtM (X.wish E) id r)(I:Inv X pj σ H s)(rx:RelV x v)(rs:Vals xs us)
  (k:r x xs H λ z H'=>∀u s',Inv X pj σ H' s'->RelV z u->Q u s'):Zq (Z1 X.prog X.w) X.A (call (.builtin id) (v::us)) Q E s :=
 ZP (p pj s σ H x xs v us _ (I.wish E) rx rs k) (λ u s' ⟨_,_,I',r,q⟩=>q u s' I'.unwish r) λ _ _ z=>z
theorem finW {pj:PnT}{s:Zk}{σ:L2.St}{H:Hp}{ι:List Zi}{σi:ISt}{h:IH}{i:Nat}{b:Zi}{ys:List IV}{vs ws:List V}{v:IV}{w:V}{Q:QvT}{E:QvT}(N:Now ce X pj ι σi h σ H s)(K:Kont ce X RU pj ι σi σ H (.ok v (h.set i (.lst ys))) Q E)
  (hb:ι[i]?=Za b)(eH:H b=Za (.lst vs))(r:RVs X.K ι H ys ws)(q:RV X.K ι H v w):∀u s',Inv X pj σ (upd H b (.lst ws)) s'->RelV w u->Q u s':=λ u s' I ru=>by
 have n:Nxt ι H ι (upd H b (.lst ws)):=⟨⟨[],by simp⟩,Ext.upd_mut eH (by rw[eH];exact ZaE)⟩
 obtain⟨R,_⟩:=N.rel.write (o:=.lst ws) (io:=.lst ys) hb eH (by rw[eH];exact ZaE) ⟨_,Jy,RVs.mono n _ _ r⟩
 exact K u s' _ ι ⟨I,R,N.st.mono n⟩ n ⟨w,ru,RV.mono n _ _ q⟩
def V5:IV->List IV->IH->Res IV
 | .ref i,[y],h=>match h[i]? with
  | some (.lst xs)=>if xs.length<sizeLine then .ok .non (h.set i (.lst (xs++[y]))) else .stuck
  | _=>.stuck
 | _,_,_=>.stuck
theorem Jr9:MtI ce X "list" "list.append" V5:=by
 intro pj s σ H ι σi h x xs v us Q E N rx rs K
 obtain⟨xv,rx,qx⟩:=rx
 obtain⟨vs,rv,qs⟩:=rs
 cases x with
 | ref i =>
  match xs,K with
  | [y],K =>
   obtain⟨a,rfl,ha⟩:=qx
   obtain⟨w,rfl,qw⟩:=qs.one_of
   dsimp only[V5] at K
   cases hi:h[i]? with
   | none=>rw[hi] at K;exact Zf K
   | some ob =>
    rw[hi] at K
    cases ob with
    | lst zs =>
     dsimp only at K
     split at K
     ·rename_i hz
      obtain⟨ws,e1,r1⟩:=N.at hi ha
      exact Jp9 (Jji (X:=X.wish E)) N.inv rx rv ⟨a,ws,w,rfl,rfl,e1,by rw[r1.length];exact hz,finW N K ha e1 (r1.append (RVs.one qw)) rfl⟩
     ·exact Zf K
    | _=>exact Zf K
  | [],K=>exact Zf K
  | _::_::_,K=>exact Zf K
 | _=>cases xs<;>exact Zf K
end
section
variable {ce:CeT}{X:Cx}
noncomputable def keyI:IV->Option Key
 | .int i=>Za (.inl i)
 | .str x=>Za (.inr x)
 | _=>Zb
theorem Jhw {K:W.Frag}{ι:List Zi}{H:Hp}{x:IV}{v:V}{k:Key}(e:keyI x=Za k)(r:RV K ι H x v):v=kV k:=by
 cases x with
 | int i=>cases e;exact r
 | str y=>cases e;exact r
 | _=>cases e
def maxI:IV->IV->IH->Res IV
 | .int i,.int j,h=>.ok (.int (if j>i then j else i)) h
 | _,_,_=>.stuck
def minI:IV->IV->IH->Res IV
 | .int i,.int j,h=>.ok (.int (if j<i then j else i)) h
 | _,_,_=>.stuck
theorem J0m (hc:X.calm=Ze):Qu ce X (.builtin "max") (on2 maxI):=by
 intro pj s σ H ι σi h xs us Q E N r K
 obtain⟨vs,rv,q⟩:=r
 match xs,K with
 | [x,y],K =>
  obtain⟨v,w,rfl,qx,qy⟩:=q.two_of
  cases x with
  | int i =>
   cases y with
   | int j =>
    cases (show v=.int i from qx)
    cases (show w=.int j from qy)
    exact QI (Jnz (X:=X.wish E) hc) N.inv rv ⟨i,j,rfl,fin0 N K rfl⟩
   | _=>exact Zf K
  | _=>cases y<;>exact Zf K
 | [],K=>exact Zf K
 | [_],K=>exact Zf K
 | _::_::_::_,K=>exact Zf K
theorem J0n (hc:X.calm=Ze):Qu ce X (.builtin "min") (on2 minI):=by
 intro pj s σ H ι σi h xs us Q E N r K
 obtain⟨vs,rv,q⟩:=r
 match xs,K with
 | [x,y],K =>
  obtain⟨v,w,rfl,qx,qy⟩:=q.two_of
  cases x with
  | int i =>
   cases y with
   | int j =>
    cases (show v=.int i from qx)
    cases (show w=.int j from qy)
    exact QI (Jn0 (X:=X.wish E) hc) N.inv rv ⟨i,j,rfl,fin0 N K rfl⟩
   | _=>exact Zf K
  | _=>cases y<;>exact Zf K
 | [],K=>exact Zf K
 | [_],K=>exact Zf K
 | _::_::_::_,K=>exact Zf K
noncomputable def Vk:List IV->Option (List Str)
 | []=>Za []
 | .str x::r=>(Vk r).map (x:: ·)
 | _=>Zb
theorem Jp0 {K:W.Frag}{ι:List Zi}{H:Hp}:∀{xs:List IV}{zs:List Str}{vs:List V}{us:List Zd},Vk xs=Za zs->RVs K ι H xs vs->Vals vs us->∃l:List (Str×Tok),us=ZeF l/\l.map (·.1)=zs
 | [],zs,vs,us,e,q,r=>by
  cases e
  have e1:vs=[]:=q
  subst e1
  cases r
  exact⟨[],rfl,rfl⟩
 | x::xs,zs,vs,us,e,q,r=>by
  obtain⟨v,vr,e1,q1,q2⟩:=q
  subst e1
  cases r with
  | cons r1 r2 =>
   cases x with
   | str y =>
    obtain⟨z2,e2,rfl⟩:=Z5.mp (show(Vk xs).map (y:: ·)=Za zs from e)
    cases (show v=.str y from q1)
    obtain⟨t,rfl⟩:=r1
    obtain⟨l,rfl,hl⟩:=Jp0 e2 q2 r2
    exact⟨(y,t)::l,rfl,by rw[Zs,hl]⟩
   | _=>cases e
end
noncomputable def JN:List IV->Option (List Int)
 | []=>Za []
 | .int i::r=>(JN r).map (i:: ·)
 | _=>Zb
theorem Xa {K:W.Frag}{ι:List Zi}{H:Hp}:∀{xs:List IV}{ns:List Int}{vs:List V}{us:List Zd},JN xs=Za ns->RVs K ι H xs vs->Vals vs us->ZcU us ns
 | [],ns,vs,us,e,q,r=>by
  cases e
  have e1:vs=[]:=q
  subst e1
  cases r
  exact .nil
 | x::xs,ns,vs,us,e,q,r=>by
  obtain⟨v,vr,e1,q1,q2⟩:=q
  subst e1
  cases r with
  | cons r1 r2 =>
   cases x with
   | int i =>
    obtain⟨n2,e2,rfl⟩:=Z5.mp (show(JN xs).map (i:: ·)=Za ns from e)
    cases (show v=.int i from q1)
    obtain⟨t,rfl⟩:=r1
    exact .cons i t (Xa e2 q2 r2)
   | _=>cases e
theorem Jcc:∀{us:List Zd}{ns:List Int},ZcU us ns->us.length=ns.length
 | _,_,.nil=>rfl
 | _,_,.cons _ _ r=>by simp[Jcc r]
section
variable {ce:CeT}{X:Cx}
noncomputable def sumI:IV->IH->Res IV
 | .ref i,h=>match h[i]? with
  | some (.lst xs)=>(match JN xs with
   | some ns=>.ok (.int ns.sum) h
   | none=>.stuck)
  | _=>.stuck
 | _,_=>.stuck
theorem J0o (hh:X.A.handled=Zb):Qu ce X (.builtin "sum") (on1 sumI):=V8 λ pj s σ H ι σi h x xv u Q E N ru qx K=>by
 cases x with
 | ref i =>
  obtain⟨a,e1,ha⟩:=qx
  subst e1
  cases ru
  dsimp only[sumI] at K
  cases hi:h[i]? with
  | none=>rw[hi] at K;exact Zf K
  | some ob =>
   rw[hi] at K
   cases ob with
   | lst xs =>
    dsimp only at K
    cases hb:JN xs with
    | none=>rw[hb] at K;exact Zf K
    | some ns =>
     rw[hb] at K
     obtain⟨vs,e1,r1⟩:=N.at hi ha
     obtain⟨its,rv,pl,hz⟩:=N.inv.list (SqL.of e1)
     have are:=Xa hb r1 rv
     obtain⟨ys,hy⟩:=are.allInts.items
     have pl':s.heap.IsList a (intItems ys):=hy▸pl.isList
     refine sum_intListG hh pl' λ h2 tk t2 kk=>?_
     have en:ns=ys.toList.map (·.1):=by
      have q1:=are.numsOf
      have q2:=congrArg (λ z:Array Zd=>numsOf z.toList) hy
      simp only at q2
      rw[<- q1]
      exact q2.trans (nums_intItems ys)
     have es:preSum (numAt ys) ys.size=ns.sum:=by
      rw[preSum_eq,en,ZaW (by simp)]
     rw[es]
     exact fin0 N K rfl _ _ (N.inv.kept (t':=tk) kk) ⟨_,rfl⟩
   | _=>exact Zf K
 | _=>exact Zf K
end
def JM (f:Nat->Int):Nat->Int
 | 0=>0
 | 1=>f 0
 | j+2=>if f (j+1)>JM f (j+1) then f (j+1) else JM f (j+1)
theorem Jc4 (f:Nat->Int){j:Nat}(hj:0<j):JM f (j+1)=if f j>JM f j then f j else JM f j:=by
 cases j with
 | zero=>omega
 | succ j=>rfl
section
variable {pr:ZA}{wd:ZM}{B:ZG}{R:Zd8->Zk->Prop}{it:Zi}{fps wrs:List Zi}{n:Nat}{P:Nat->Zd->Prop}{St:Nat->ZT->Prop}
abbrev Jzb (v:Zd)(c:Nat):Obj:={ cls:=.type "list",dict:=Zb,data:=.seq #[v,v] c,slots:=#[] }
theorem Vx:(toString "max"++toString ".loop":String)="max.loop":=by decide
theorem Jvw {kw:List (Str×Zd)}(W:Walks pr wd B.in1 it fps wrs n P St)(f:Nat->Int)(hf:∀i v,P i v->∃t,v=.int (f i) t)(C:Zi)(hC:C∉fps) :
  ∀(r j:Nat)(z:Zk)(v:Zd)(u:Tok)(c:Nat),n-j=r->0<j->j<=n->St j z.heap->v=.int (JM f j) u->z.heap.get? C=Za (Jzb v c) ->
   (∀u h2 tk,(∀a o,a∉wrs->a≠C->z.heap.get? a=Za o->h2.get? a=Za o)->R (.ok (.ret (.int (JM f n) u))) { z with heap:=h2,toks:=tk }) ->
   ZbW (Z1 pr wd) B (.builtin "max.loop" ⟨[.ref it,.none,.ref C],kw⟩) R z:=by
 have hw:C∉wrs:=λ q=>hC (W.sub _ q)
 intro r
 induction r with
 | zero =>
  intro j z v u c hr h0 hj st ev gC fin
  obtain rfl:j=n:=by omega
  subst ev
  refine ZaA ZaY ?_
  rw[Za6 ZK _]
  show Zq _ B.in1 (ZcS (.ref C)>>=_) _ _ z
  refine Zh (ZbF gC rfl ?_)
  show Zq _ B.in1 (tryCatch (Zcp (.ref it)) _>>=_) _ _ z
  refine Zh (Za7 (W.done z _ _ st λ h2 tk keep=>?_))
  have gC2:=keep C _ hw gC
  show Zq _ B.in1 (ZeG C (λ _=>#[])>>=_) _ _ _
  refine Zh ?_
  refine ZbR gC2 rfl (Zh (ZbM (Zw ?_)))
  exact fin u _ tk λ a o ha hb e=>(Z2 _ _ (ZW hb)).trans (keep a o ha e)
 | succ r ih =>
  intro j z v u c hr h0 hj st ev gC fin
  have lt:j<n:=by omega
  subst ev
  refine ZaA ZaY ?_
  rw[Za6 ZK _]
  show Zq _ B.in1 (ZcS (.ref C)>>=_) _ _ z
  refine Zh (ZbF gC rfl ?_)
  show Zq _ B.in1 (tryCatch (Zcp (.ref it)) _>>=_) _ _ z
  refine Zh (Za7 (W.item j z _ _ lt st λ y h2 tk hP st2 keep=>?_))
  obtain⟨t,rfl⟩:=hf j y hP
  have gC2:=keep C _ hw gC
  have cmp:=CmpOf.ints_gt (prog:=pr) (w:=wd) (A:=B.in1) (P:=λ i v=>∃t,v=.int (if i=0 then f j else JM f j) t) (λ i=>if i=0 then f j else JM f j) (λ _ _ q=>q)
  show Zq _ B.in1 (tryCatch (Zdk [Zdo (f j) t,Zdo (f j) t] (richCompare .Gt (.int (f j) t) (.int (JM f j) u)>>=_)) _>>=_) _ _ _
  refine Zh (Za7 (Zat (Zh (cmp 0 1 _ _ _ _ _ ⟨t,by simp⟩ ⟨u,by simp⟩ ?_))))
  refine Zh (Zat (Zbl ?_))
  refine Zh (ZbM (Zw ?_))
  have step:=Jc4 f h0
  by_cases hb:f j>JM f j
  ·rw[if_pos hb] at step
   simp only[if_true,show ¬(1:Nat)=0 by decide,if_false,decide_eq_true hb]
   refine Zh ?_
   refine ZbR gC2 rfl (Zh (ZbM ?_))
   rw[Vx]
   refine Zw ⟨Zbu ZK _,ih (j+1) _ (.int (f j) t) t _ (by omega) (by omega) lt (W.frame _ _ _ st2 λ a ha o e=>?_) (by rw[step]) (Za3 _ gC2 rfl) λ u2 h3 tk3 k3=>?_⟩
   ·exact(Z2 _ _ (λ q:C=a=>hC (by rw[q];exact ha))).trans e
   ·exact fin u2 h3 tk3 λ a o ha hc e=>k3 a o ha hc ((Z2 _ _ (ZW hc)).trans (keep a o ha e))
  ·rw[if_neg hb] at step
   simp only[if_true,show ¬(1:Nat)=0 by decide,if_false,decide_eq_false hb,Zag]
   refine Zh (ZbM ?_)
   rw[Vx]
   refine Zw ⟨Zbu ZK _,ih (j+1) _ (.int (JM f j) u) u c (by omega) (by omega) lt st2 (by rw[step]) gC2 λ u2 h3 tk3 k3=>?_⟩
   exact fin u2 h3 tk3 λ a o ha hc e=>k3 a o ha hc (keep a o ha e)
end
theorem Jnn (a v:Zd):ZeH "max" ⟨[a],[(Zap "default",v)]⟩:=by unfold ZeH;kernel_rfl
section
variable {pr:ZA}{wd:ZM}{B:ZG}{E:QvT}{z:Zk}{l:Zi}{us:List Zd}{ns:List Int}{d:Option Zd}{Q:QvT}{kw:List (Str×Zd)}
def J0g (ns:List Int)(d:Option Zd)(v:Zd):Prop:=(ns=[]/\d=Za v)∨(ns≠[]/\∃u,v=.int (JM (λ i=>ns.getD i 0) ns.length) u)
theorem Jpc (hk:Zbr "max" ["key","default"] 0 ⟨[],kw⟩=pure [Zb,d])(ha:ZeH "max" ⟨[.ref l],kw⟩)(hn:ns=[]->∃v,d=Za v)(hh:B.handled=Zb)(hl:z.heap.IsList l us.toArray)(hi:ZcU us ns)
  (hQ:∀v h2 tk,J0g ns d v->(∀b o,z.heap.get? b=Za o->h2.get? b=Za o)->Q v { z with heap:=h2,toks:=tk }) :
  Zq (Z1 pr wd) B (call (.builtin "max") [.ref l] kw) Q E z:=by
 obtain⟨ol,hol,_⟩:=id hl
 have lt:l<z.heap.objs.size:=Zx hol
 have ll:=Jcc hi
 refine kmk_tree PySem.F.kind_max PySem.F.plain_max PySem.F.entry_max ha ?_
 show Zq _ B.in1 (Zbr "max" ["key","default"] 0 ⟨[],kw⟩>>=_) _ _ z
 refine Zh (wpAny_of_eq hk ?_)
 refine Zh (Zw ?_)
 refine Zh (ZaV hl ?_)
 refine Zh (wpAny_newList ?_ (Zal _))
 rw[Vx]
 have ne:l≠z.heap.objs.size:=ZD lt
 have W:=Zdv (prog:=pr) (w:=wd) (A:=B.in1) hh z.heap.objs.size l ne us.toArray
 have sz:us.toArray.size=us.length:=Zz ..
 have hS:(z.heap.push { cls:=.type "list_iterator",data:=.fields #[.ref l,.int 0 0] }).objs.size=z.heap.objs.size+1:=size_push' ..
 have hC:(z.heap.push { cls:=.type "list_iterator",data:=.fields #[.ref l,.int 0 0] }).objs.size∉[z.heap.objs.size,l]:=by
  rw[hS]
  simp only[ZB,ZaC,or_false,not_or]
  exact⟨Zbq (ZaR _),Zbq (ZcE lt)⟩
 have hw:(z.heap.push { cls:=.type "list_iterator",data:=.fields #[.ref l,.int 0 0] }).objs.size∉[z.heap.objs.size]:=by
  rw[hS]
  simp only[ZB,ZaC,or_false]
  exact Zbq (ZaR _)
 have old:∀b o,z.heap.get? b=Za o->((z.heap.push { cls:=.type "list_iterator",data:=.fields #[.ref l,.int 0 0] }).push (ZcF "list" #[] 0)).get? b=Za o:=λ b o e=>Zg _ (Zg _ e)
 have gI:((z.heap.push { cls:=.type "list_iterator",data:=.fields #[.ref l,.int 0 0] }).push (ZcF "list" #[] 0)).get? z.heap.objs.size=Za { cls:=.type "list_iterator",data:=.fields #[.ref l,.int 0 0] }:=Zg _ (Zy _ rfl)
 have gC:((z.heap.push { cls:=.type "list_iterator",data:=.fields #[.ref l,.int 0 0] }).push (ZcF "list" #[] 0)).get? (z.heap.push { cls:=.type "list_iterator",data:=.fields #[.ref l,.int 0 0] }).objs.size=Za (ZcF "list" #[] 0):=Zy _ rfl
 have notin:∀b o,z.heap.get? b=Za o->b∉[z.heap.objs.size]:=λ b o e q=>ZD (Zx e) (ZI.mp q)
 have notC:∀b o,z.heap.get? b=Za o->b≠(z.heap.push { cls:=.type "list_iterator",data:=.fields #[.ref l,.int 0 0] }).objs.size:=λ b o e=>by rw[hS];exact ZD (ZcE (Zx e))
 refine Zw ⟨Zbu ZK _,ZaA ZaY ?_⟩
 rw[Za6 ZK _]
 show Zq _ B.in1 (ZcS (.ref _)>>=_) _ _ _
 refine Zh (ZbF gC rfl ?_)
 show Zq _ B.in1 (tryCatch (Zcp (.ref z.heap.objs.size)) _>>=_) _ _ _
 by_cases h0:us.length=0
 ·refine Zh (Za7 (W.done _ _ _ (by rw[sz,h0];exact⟨⟨_,gI,rfl,rfl⟩,(hl.push _).push _⟩) λ h2 tk keep=>?_))
  obtain⟨v,rfl⟩:=hn (ZaG (by omega))
  show Zq _ B.in1 (rule _>>=_) _ _ _
  refine Zh (wpAny_rule (Zw ?_))
  refine hQ v h2 tk (.inl ⟨ZaG (by omega),rfl⟩) λ b o e=>keep b o (notin b o e) (old b o e)
 ·refine Zh (Za7 (W.item 0 _ _ _ (by rw[sz];omega) ⟨⟨_,gI,rfl,rfl⟩,(hl.push _).push _⟩ λ y h2 tk hP st2 keep=>?_))
  have gC2:=keep _ _ hw gC
  show Zq _ B.in1 (ZeG (z.heap.push { cls:=.type "list_iterator",data:=.fields #[.ref l,.int 0 0] }).objs.size (λ _=>#[y,y])>>=_) _ _ _
  refine Zh ?_
  refine ZbR gC2 rfl ?_
  rw[Vx]
  have hf:∀(i:Nat)(v:Zd),us.toArray[i]?=Za v->∃t,v=.int ((λ i=>ns.getD i 0) i) t:=λ i v q=>IntsAre.int_at hi i v (by simpa using q)
  obtain⟨t,rfl⟩:=hf 0 y hP
  refine Zw ⟨Zbu ZK _,Jvw W (λ i=>ns.getD i 0) hf _ hC _ 1 _ _ t _ rfl (by decide) (by rw[sz];omega) (W.frame _ _ _ st2 λ a ha o e=>?_) rfl (Za3 _ gC2 rfl) λ u h3 tk3 k3=>?_⟩
  ·exact(Z2 _ _ (λ q=>hC (by rw[q];exact ha))).trans e
  ·rw[sz,ll]
   refine hQ _ h3 tk3 (.inr ⟨λ q=>h0 (by rw[ll,q];rfl),u,rfl⟩) λ b o e=>k3 b o (notin b o e) (notC b o e) ((Z2 _ _ (ZW (notC b o e))).trans (keep b o (notin b o e) (old b o e)))
end
section
variable {ce:CeT}{X:Cx}
def maxD (ns:List Int)(d:IV):IV:=if ns=[] then d else .int (JM (λ i=>ns.getD i 0) ns.length)
def XE (aa:A1)(md:E1):E1:=λ σ h=>(aa σ h).bind λ xs h1=>(md σ h1).bind λ d h2=>match xs with
 | [.ref i]=>(match h2[i]? with
  | some (.lst ys)=>(match JN ys with
   | some ns=>.ok (maxD ns d) h2
   | none=>.stuck)
  | _=>.stuck)
 | _=>.stuck
theorem Jx9 {a de:Expr}{aa:A1}{md:E1}{p pos kp:Pos}(hh:X.A.handled=Zb)(hg:Gl X "max")(hm:X.mg "max"=Zb)(ha:PAi ce X [a] aa)(hd:PEi ce X de md)(hs:Z9 [a] X.env=[(Zj,ZaJ a X.env)]) :
  PEi ce X (.Call (.Name "max" p) [a] [⟨Za "default",de,kp⟩] pos) (XE aa md):=λ pj s σ H ι σi h Q E N K=>by
 refine ZQ (Qg N.inv hg hm rfl ?_)
 refine callWith_kw ?_ (by rw[hs];rfl) (by rw[hs];rfl) rfl rfl
 refine(ha pos).run N K λ xs h1 us s1 H1 ι1 N1 n1 r1 K1=>?_
 refine Zcn (Zh (PX.run hd N1 K1 λ d h2 du s2 H2 ι2 N2 n2 r2 K2=>Zh (Zb9 (Zw (ZdE ?_)))))
 obtain⟨vs,rv,qs⟩:=r1.mono n2
 match xs,K2 with
 | [.ref i],K2 =>
  obtain⟨w,rfl,ad,rfl,hav⟩:=qs.one_of
  obtain⟨u,rfl,ru⟩:=Qq rv
  cases ru
  dsimp only at K2
  cases hi:h2[i]? with
  | none=>rw[hi] at K2;exact Zf K2
  | some ob =>
   rw[hi] at K2
   cases ob with
   | lst ys =>
    dsimp only at K2
    cases hb:JN ys with
    | none=>rw[hb] at K2;exact Zf K2
    | some ns =>
     rw[hb] at K2
     dsimp only at K2
     obtain⟨ws,e1,r3⟩:=N2.at hi hav
     obtain⟨its,rv2,pl,_⟩:=N2.inv.list (SqL.of e1)
     refine Jpc (d:=Za du) rfl (Jnn _ _) (λ _=>⟨_,rfl⟩) hh pl.isList (Xa hb r3 rv2) λ v h3 tk mi kk=>?_
     have N3:Now ce X pj ι2 σi h2 σ H2 { s2 with heap:=h3,toks:=tk }:=⟨N2.inv.kept (t':=tk) kk,N2.rel,N2.st⟩
     rcases mi with⟨e,ev⟩|⟨e,t,rfl⟩
     ·cases ev
      have em:maxD ns d=d:=if_pos e
      rw[em] at K2
      exact K2 _ _ _ _ N3 .refl r2
     ·have em:maxD ns d=.int (JM (λ i=>ns.getD i 0) ns.length):=if_neg e
      rw[em] at K2
      exact K2 _ _ _ _ N3 .refl ⟨.int _,⟨t,rfl⟩,rfl⟩
   | _=>exact Zf K2
 | [],K2=>exact Zf K2
 | [.non],K2=>exact Zf K2
 | [.bl _],K2=>exact Zf K2
 | [.int _],K2=>exact Zf K2
 | [.str _],K2=>exact Zf K2
 | [.tup _],K2=>exact Zf K2
 | [.rol _],K2=>exact Zf K2
 | x::_::_,K2=>cases x<;>exact Zf K2
end
def metB (f:Nat->Str)(i:Nat)(k:Str):Bool:=(Z8 i).any λ j=>decide (k=f j)
def cntD (f:Nat->Str):Nat->Nat
 | 0=>0
 | i+1=>if metB f i (f i) then cntD f i else cntD f i+1
theorem Jpa (f:Nat->Str)(i:Nat)(k:Str):metB f (i+1) k=(metB f i k||decide (k=f i)):=by simp[metB,List.range_succ]
theorem Jj6 (f:Nat->Str):∀i,cntD f i<=i
 | 0=>Zr _
 | i+1=>by
  have:=Jj6 f i
  unfold cntD
  split<;>omega
section
variable {pr:ZA}{wd:ZM}{B:ZG}{R:Zd8->Zk->Prop}{it:Zi}{fps wrs:List Zi}{G:Array Ze3->Array Ze3->Prop}{n:Nat}{P:Nat->Zd->Prop}{St:Nat->Zk->Prop}
abbrev Vb (pr:ZA)(wd:ZM)(hp:ZT)(a:Zi)(f:Nat->Str)(i:Nat):Prop:=hp.SetOf (ZcV pr wd) a (λ k=>metB f i k) (cntD f i)
theorem Vb.moved {hp h2:ZT}{a:Zi}{f:Nat->Str}{i:Nat}(q:Vb pr wd hp a f i)(m:∀o,hp.get? a=Za o->h2.get? a=Za o):Vb pr wd h2 a f i:=by
 obtain⟨o,es,ep,t,ho,rest⟩:=q
 exact⟨o,es,ep,t,m o ho,rest⟩
theorem Jsv (W:WalksS pr wd B.in1 it fps wrs G n P St)(C:Zi)(hC:C∉fps)(f:Nat->Str)(hf:∀i v,P i v->∃t,v=.str (f i) t)(room:n+1<Zch) :
  ∀(r i:Nat)(z:Zk),n-i=r->i<=n->St i z->Vb pr wd z.heap C f i->(∀z2,Moved (C::wrs) G z z2->Vb pr wd z2.heap C f n->R (.ok (.ret .none)) z2) ->
   ZbW (Z1 pr wd) B (.builtin "set.update.loop" ⟨[.ref C,.ref it],[]⟩) R z:=by
 have nw:C∉wrs:=λ q=>hC (W.sub _ q)
 have more:∀b∈wrs,b∈C::wrs:=λ b q=>Zt _ q
 intro r
 induction r with
 | zero =>
  intro i z hr hi st hS fin
  obtain rfl:i=n:=by omega
  refine ZaA Zcq ?_
  rw[Za6 Zbo _]
  show Zq _ B.in1 (Zcp (.ref it)>>=_) _ _ z
  refine Zh (W.done z _ _ st λ z2 mv=>?_)
  show Zq _ B.in1 (ret Zaf) _ _ z2
  exact Zw (fin z2 (mv.mono more) (hS.moved λ o e=>mv.heap C _ nw e))
 | succ r ih =>
  intro i z hr hi st hS fin
  have lt:i<n:=by omega
  refine ZaA Zcq ?_
  rw[Za6 Zbo _]
  show Zq _ B.in1 (Zcp (.ref it)>>=_) _ _ z
  refine Zh (W.item i z _ _ lt st λ v z2 hP st2 mv=>?_)
  obtain⟨t,rfl⟩:=hf i v hP
  have hS2:Vb pr wd z2.heap C f i:=hS.moved λ o e=>mv.heap C _ nw e
  have ki:(ZcV pr wd).is (f i) (.str (f i) t)=Ze:=strKind_is _ _ _ _
  show Zq _ B.in1 (Zdk [Zep (f i) t] (setAdd C (.str (f i) t))>>=_) _ _ z2
  refine Zh (Zat ?_)
  unfold setAdd
  refine Zat ?_
  refine Zh ((ZcV pr wd).pyHash (k:=f i) ki ?_)
  have rm:cntD f i+1<Zch:=by have:=Jj6 f i;omega
  refine wpAny_setAddHashed_of (knd:=ZcV pr wd) (s:={ z2 with toks:=z2.toks+1 }) ki rfl hS2 rm λ h3 sb hS3=>?_
  have hS4:Vb pr wd h3 C f (i+1):=SetOf_congr hS3 (λ k=>(Jpa f i k).symm) (by show _=cntD f (i+1);rfl)
  refine Zw ⟨Zbu Zbo _,ih (i+1) _ (by omega) lt (W.frame _ z2 _ _ st2 (Zao _) λ b q o e=>?_) hS4 λ z5 m5 hS5=>?_⟩
  ·rw[sb.2 b (λ e2:b=C=>hC (by rw[<- e2];exact q))];exact e
  ·refine fin z5 (Moved.trans W.gtrans ((mv.mono more).then_heap (Zao _) λ b o q e=>?_) m5) hS5
   rw[sb.2 b (λ e2:b=C=>q (by rw[e2];exact Zv))];exact e
end
section
variable {pr:ZA}{wd:ZM}{B:ZG}{E:QvT}{z:Zk}{l:Zi}{us:List Zd}{zs:List Str}{Q:QvT}
abbrev QD (led:Bool):Obj:={ cls:=.type "set",dict:=Zb,data:=.set #[] 0 (.fresh 0 0 led) }
abbrev Q2 (zs:List Str):Nat->Str:=λ i=>zs.getD i Str.empty
set_option maxRecDepth 100000 in
theorem Jsu {l2:List (Str×Tok)}(hh:B.handled=Zb)(hl:z.heap.IsList l us.toArray)(eu:us=ZeF l2)(ez:l2.map (·.1)=zs)(room:zs.length+1<Zch)
  (fin:∀(h2:ZT)(tk:Nat),Vb pr wd h2 z.heap.objs.size (Q2 zs) zs.length->(∀b o,z.heap.get? b=Za o->h2.get? b=Za o)->Q (.ref z.heap.objs.size) { z with heap:=h2,toks:=tk }) :
  Zq (Z1 pr wd) B (call (.type "set") [.ref l]) Q E z:=by
 have len:us.toArray.size=zs.length:=by rw[eu,<-ez];simp[ZeF]
 have vals:∀(i:Nat)(v:Zd),us.toArray[i]?=Za v->∃t,v=.str (Q2 zs i) t:=λ i v q=>by
  rw[eu] at q
  simp only[ZeF,ZcI,Z0] at q
  obtain⟨p,hp,rfl⟩:=Z5.mp q
  refine⟨p.2,?_⟩
  rw[<- ez]
  simp[Q2,Z3,Z0,hp]
 obtain⟨c,tl,hmro⟩:=PySem.F.called_set.mro
 have hmade:=PySem.F.called_set.made
 have hsub:=PySem.F.called_set.sub
 refine Zc0 (codeAny_of_tree ?_)
 show Zq _ _ (callAny (.type "set") _) _ _ _
 refine Zw ⟨Zc1 _ (by decide +kernel),ZaA PySem.F.entry_type_call ?_⟩
 rw[Around.under_plain (weight_type_call_type "set" [.ref l] []) rfl]
 have no1:=PySem.F.called_set.notType
 have no2:=PySem.F.called_set.canCreate
 have ok1:=PySem.F.typeCall_set_1 (.ref l)
 repeat (any_goals (first|assumption|wp_step))
 refine ZbN (code_set_new_1 (.ref l) (E:=E) (Q₁:=λ obj z1=>∃led:Bool,obj=.ref z.heap.objs.size/\z1={ z with heap:=z.heap.push (QD led) }) λ led=>⟨led,rfl,rfl⟩) λ res z1 hr=>?_
 cases res with
 | error e=>exact hr
 | ok fl =>
  cases fl with
  | ret obj =>
   obtain⟨led,rfl,rfl⟩:=hr
   have gS:(z.heap.push (QD led)).get? z.heap.objs.size=Za (QD led):=Zy _ rfl
   have tS:Shared.TypeIs { z with heap:=z.heap.push (QD led) } (.ref z.heap.objs.size) "set":=⟨_,gS,rfl⟩
   have in1:=PySem.F.called_set.init.lookup
   have in2:=PySem.F.called_set.init.bind (.ref z.heap.objs.size)
   repeat (any_goals (first|assumption|wp_step))
   refine ZbN (Zbi (R:=wants (λ res z2=>res=.none/\∃h2 tk,z2={ z with heap:=h2,toks:=tk }/\Vb pr wd h2 z.heap.objs.size (Q2 zs) zs.length/\(∀b o,z.heap.get? b=Za o->h2.get? b=Za o)) E)
    PySem.F.called_set.init.plain PySem.F.entry_set_init (check_set_init_1 tS ?_)) λ res2 z2 hr2=>?_
   ·obtain⟨ol,hol,hcl,nl,hdl⟩:=hl
    obtain⟨ocls,odict,odata,oslots⟩:=ol
    simp only at hcl hdl
    subst hcl;subst hdl
    have gl:(z.heap.push (QD led)).get? l=Za { cls:=.type "list",dict:=odict,data:=.seq us.toArray nl,slots:=oslots }:=Zg _ hol
    have sb1:=PySem.F.sub_list_set
    have sb2:=PySem.F.sub_list_frozenset
    have dne:(ZbZ "list"==ZbZ "dict")=Zj:=by decide
    have hl1:(z.heap.push (QD led)).IsList l us.toArray:=⟨_,gl,rfl,nl,rfl⟩
    unfold Zdl.«set.__init__» noKeywords Builtin.Frozenset.updateFrom
    generalize hPI:Zey=PI
    wp_walk
    subst hPI
    refine ZaV hl1 ?_
    refine Zh (wpAny_runValue ?_)
    have lS:l<z.heap.objs.size:=Zx hol
    have h3:B.in1.in1.in1.handled=Zb:=by simp[hh]
    have neI:l≠(z.heap.push (QD led)).objs.size:=by rw[Zc9];exact ZD (ZcE lS)
    have nC:z.heap.objs.size∉[(z.heap.push (QD led)).objs.size,l]:=by
     rw[Zc9]
     simp only[ZB,ZaC,or_false,not_or]
     exact⟨ZD (ZaR _),Zbq lS⟩
    refine Jsv ((Zdv h3 _ l neI us.toArray).toS) z.heap.objs.size nC (Q2 zs) vals (by rw[len];exact room) (us.toArray.size-0) 0 _ (by omega) (Zal _) ⟨⟨_,Zy _ rfl,rfl,rfl⟩,(hl1.push _)⟩ ?start ?stop
    case start =>
     have g0:((z.heap.push (QD led)).push { cls:=.type "list_iterator",data:=.fields #[.ref l,.int 0 0] }).get? z.heap.objs.size=Za (QD led):=Zg _ gS
     exact SetOf_congr ((setObjOf_fresh (knd:=ZcV pr wd) led).setOf g0 (by unfold Zch;omega)) (λ _=>rfl) rfl
    case stop =>
     intro z5 mv hS5
     obtain⟨h5,g5,d5,tk5,os5⟩:=z5
     have eg:g5=z.gens:=mv.gens
     have ed:d5=z.drawn:=mv.drawn
     have eo:os5=z.os:=mv.os
     subst eg;subst ed;subst eo
     show Zq _ _ _ _ _ _
     refine Zw ?_
     show Zq _ _ (ret Zaf) _ _ _
     rw[len] at hS5
     refine Zw ⟨rfl,h5,tk5,rfl,hS5,λ b o e=>?_⟩
     have lb:=Zx e
     have b1:b≠z.heap.objs.size:=ZD lb
     have b2:b≠(z.heap.push (QD led)).objs.size:=by rw[Zc9];exact ZD (ZcE lb)
     exact mv.heap b o (by simp only[ZB,ZaC,or_false,not_or];exact⟨b1,b2⟩) (Zg _ (Zg _ e))
   ·cases res2 with
    | error e=>exact hr2
    | ok fl2 =>
     cases fl2 with
     | ret rv =>
      obtain⟨rfl,h2,tk,rfl,hS2,keep⟩:=hr2
      repeat (any_goals (first|assumption|wp_step))
      exact fin _ _ hS2 keep
     | _=>exact hr2.elim
  | _=>exact hr.elim
end
section
variable {ce:CeT}{X:Cx}
def XD (aa:A1):E1:=λ σ h=>(aa σ h).bind λ xs h1=>match xs with
 | [.ref i]=>(match h1[i]? with
  | some (.lst ys)=>(match Vk ys with
   | some zs=>if zs.length+1<Zch then .ok (.int (cntD (Q2 zs) zs.length)) h1 else .stuck
   | none=>.stuck)
  | _=>.stuck)
 | _=>.stuck
theorem Jrv {a:Expr}{aa:A1}{p pos p2 pos2:Pos}(hh:X.A.handled=Zb)(g1:Gl X "len")(m1:X.mg "len"=Zb)(g2:Gl X "set")(m2:X.mg "set"=Zb)(ha:PAi ce X [a] aa)(hs:Z9 [a] X.env=[(Zj,ZaJ a X.env)]) :
  PEi ce X (.Call (.Name "len" p) [.Call (.Name "set" p2) [a] [] pos2] [] pos) (XD aa):=λ pj s σ H ι σi h Q E N K=>by
 refine ZQ (Qg N.inv g1 m1 rfl ?_)
 refine Zbd ?_ rfl rfl
 refine Zdz ?_
 refine ZQ (Qg N.inv g2 m2 rfl ?_)
 refine Zaa ?_ hs rfl
 refine(ha pos2).run N K λ xs h1 us s1 H1 ι1 N1 n1 r1 K1=>?_
 obtain⟨vs,rv,qs⟩:=r1
 match xs,K1 with
 | [.ref i],K1 =>
  obtain⟨w,rfl,ad,rfl,hav⟩:=qs.one_of
  obtain⟨u,rfl,ru⟩:=Qq rv
  cases ru
  dsimp only at K1
  cases hi:h1[i]? with
  | none=>rw[hi] at K1;exact Zf K1
  | some ob =>
   rw[hi] at K1
   cases ob with
   | lst ys =>
    dsimp only at K1
    cases hb:Vk ys with
    | none=>rw[hb] at K1;exact Zf K1
    | some zs =>
     rw[hb] at K1
     dsimp only at K1
     split at K1
     ·rename_i room
      obtain⟨ws,e1,r3⟩:=N1.at hi hav
      obtain⟨its,rv2,pl,_⟩:=N1.inv.list (SqL.of e1)
      obtain⟨l2,eu,ez⟩:=Jp0 hb r3 rv2
      refine Jsu hh pl.isList eu ez room λ h2 tk hS keep=>Zd0 ?_
      obtain⟨o,es,ep,t,ho,hex,hd,hel,hmem,hbb,hf,hn⟩:=hS
      have fit:(es.size:Int)<2^63:=by
       have:=Jj6 (Q2 zs) zs.length
       have sb:Zch<=2^40:=by unfold Zch;decide
       omega
      refine call_len_set ho hex hd hf fit ?_
      rw[hn]
      exact K1 _ _ _ _ ⟨(N1.inv.kept (t':=_) keep),N1.rel,N1.st⟩ .refl ⟨.int _,⟨_,rfl⟩,rfl⟩
     ·exact Zf K1
   | _=>exact Zf K1
 | [],K1=>exact Zf K1
 | [.non],K1=>exact Zf K1
 | [.bl _],K1=>exact Zf K1
 | [.int _],K1=>exact Zf K1
 | [.str _],K1=>exact Zf K1
 | [.tup _],K1=>exact Zf K1
 | [.rol _],K1=>exact Zf K1
 | x::_::_,K1=>cases x<;>exact Zf K1
end
section
variable {α β:Type}{h h1:IH}{σ:ISt}
def SRes.sq (r:SRes)(b:S1):SRes:=match r with
 | .next σ' h'=>b σ' h'
 | r=>r
theorem Juz {n:Nat}{σ:ISt}{h:IH}{c:Str}{fs:List (Str×IV)}(e:h[n]?=Za (.exc c fs)):(SRes.exc n σ h).fin=.exc n h:=by simp[SRes.fin,e]
theorem Jrh (v:IV)(σ:ISt):Ja 0 (Za v::σ) h=.ok v h:=rfl
theorem Juv (n:Nat)(x:Option IV)(σ:ISt):Ja (n+1) (x::σ) h=Ja n σ h:=rfl
end
def MulS (x:Str)(n:Int):Bool:=decide (x.length<=1000/\ -1000<=n/\n<=1000)
theorem MulS.ok {x:Str}{n:Int}(h:MulS x n=Ze):MulOk x n:=by
 simp only[MulS,decide_eq_true_eq] at h
 obtain⟨h1,h2,h3⟩:=h
 refine⟨?_,λ hn _=>?_,λ hn _=>?_⟩
 ·simp only[ZcX,decide_eq_false_iff_not]
  omega
 ·have e:(1000:Int)<=(2^63-1)/n:=by
   rw[ZdX (by omega)]
   have:(1000:Int)*n<=1000*1000:=Zav h3 (by decide)
   omega
  omega
 ·have:x.length*n.toNat<=1000*1000:=Nat.mul_le_mul h1 (by omega)
  have hb:1000000<sizeLine:=by decide
  unfold Builtin.Str.tooLong
  simp only[decide_eq_false_iff_not]
  omega
theorem Jv5 {X:L2.Cx}:OpR X (ZaQ .Mult) (λ x y H Q=>∃i j,x=.str i/\y=.int j/\MulS i j=Ze/\Q (.str (Txt.mul i j)) H):=by
 intro pj s σ H x y v u Q I rx ry h
 obtain⟨i,j,rfl,rfl,hz,q⟩:=h
 obtain⟨t,rfl⟩:=rx
 obtain⟨t',rfl⟩:=ry
 exact SB.mul (MulS.ok hz) λ t' tk=>⟨.str (Txt.mul i j),H,I.tok _,⟨_,rfl⟩,q⟩
def JW (x y:IV)(h:IH):Res IV:=match x with
 | .str i=>(match y with
  | .int j=>if MulS i j then .ok (.str (Txt.mul i j)) h else .stuck
  | _=>.stuck)
 | x=>Xh x y h
section
variable {ce:CeT}{X:Cx}
theorem Jy1:OpI ce X (ZaQ .Mult) JW:=by
 intro pj s σ H ι σi h x y v u Q E N rx ry K
 cases x with
 | str i =>
  obtain⟨xv,rx,qx⟩:=rx
  obtain⟨yv,ry,qy⟩:=ry
  cases y with
  | int j =>
   have e1:xv=.str i:=qx
   have e2:yv=.int j:=qy
   subst e1 e2
   dsimp only[JW] at K
   split at K
   ·rename_i hz
    exact JP (Jv5 (X:=X.wish E)) N.inv rx ry ⟨i,j,rfl,rfl,hz,fin0 N K rfl⟩
   ·exact Zf K
  | _=>exact Zf K
 | _=>exact J07 pj s σ H ι σi h _ y v u Q E N rx ry K
end
noncomputable def valI (kvs:List (Key×IV))(k:Key):Option IV:=(kvs.find? λ kv=>decide (kv.1=k)).map (·.2)
theorem Jfh {p:Key×IV}{r:List (Key×IV)}{k:Key}(e:p.1=k):valI (p::r) k=Za p.2:=by simp[valI,Zbn,e]
theorem Jfg {p:Key×IV}{r:List (Key×IV)}{k:Key}(e:¬p.1=k):valI (p::r) k=valI r k:=by simp[valI,Zbn,e]
theorem RPs.get {K:W.Frag}{ι:List Zi}{H:Hp}(k:Key):∀{xs:List (Key×IV)}{vs:List (Key×V)},RPs K ι H xs vs->(valI xs k=Zb/\valV vs k=Zb)∨∃v w,valI xs k=Za v/\valV vs k=Za w/\RV K ι H v w
 | [],_,h=>by
  have e:_=[]:=h
  subst e
  exact .inl ⟨rfl,rfl⟩
 | x::xs,_,h=>by
  obtain⟨v,r,rfl,q,t⟩:=h
  by_cases e:x.1=k
  ·exact .inr ⟨x.2,v,Jfh e,Jfk e,q⟩
  ·rw[Jfg e,Jfj e]
   exact RPs.get k t
theorem RPs.snoc {K:W.Frag}{ι:List Zi}{H:Hp}{k:Key}{v:IV}{w:V}(q:RV K ι H v w):∀{xs:List (Key×IV)}{vs:List (Key×V)},RPs K ι H xs vs->RPs K ι H (xs++[(k,v)]) (vs++[(k,w)])
 | [],_,h=>by
  have e:_=[]:=h
  subst e
  exact⟨w,[],rfl,q,rfl⟩
 | x::xs,_,h=>by
  obtain⟨v',r,rfl,q',t⟩:=h
  exact⟨v',r++[(k,w)],rfl,q',RPs.snoc q t⟩
theorem Jh3 {vs:List (Key×V)}{k:Key}{w:V}(e:valV vs k=Zb):putK vs k w=vs++[(k,w)]:=by
 unfold putK
 rw[if_neg]
 rw[Jfi,e]
 exact Zp
section
variable {ce:CeT}{X:Cx}
def Jre:E1:=λ _ h=>.ok (.ref h.length) (h++[.dct []])
theorem Jx2 {pos:Pos}:PEi ce X (.Dict [] [] pos) Jre:=λ pj s σ H ι σi h Q E N K=>by
 have hn:=N.inv.hok.fresh (Zr s.heap.objs.size)
 have I1:=N.inv.laid (a:=s.heap.objs.size) (o:=.dK []) (h':=s.heap.push { cls:=.type "dict",data:=.dict #[] }) (t':=s.toks) (λ _ _ q=>Zg _ q) (Zr _) (Jrc s.heap N.inv.big)
 obtain⟨R1,n1⟩:=N.rel.alloc (o:=.dK []) (io:=.dct []) hn ⟨[],Jy,rfl⟩
 have N1:Now ce X pj (ι++[s.heap.objs.size]) σi (h++[.dct []]) σ (upd H s.heap.objs.size (.dK [])) _:=⟨I1,R1,N.st.mono n1⟩
 have h0:(ι++[s.heap.objs.size])[h.length]?=Za s.heap.objs.size:=by rw[<- N.rel.len,Zu (Zr _)];simp
 exact wpAny_Dict_empty (K _ _ _ (ι++[s.heap.objs.size]) N1 n1 ⟨.ref _,rfl,_,rfl,h0⟩)
def V1:IV->List IV->IH->Res IV
 | .ref i,[y,v],h=>match h[i]? with
  | some (.dct kvs)=>(match keyI y with
   | some k=>(match valI kvs k with
    | some w=>.ok w h
    | none=>if kvs.length<sizeLine then .ok v (h.set i (.dct (kvs++[(k,v)]))) else .stuck)
   | none=>.stuck)
  | _=>.stuck
 | _,_,_=>.stuck
theorem Jsd:MtI ce X "dict" "dict.setdefault" V1:=by
 intro pj s σ H ι σi h x xs v us Q E N rx rs K
 obtain⟨xv,rx,qx⟩:=rx
 obtain⟨vs,rv,qs⟩:=rs
 cases x with
 | ref i =>
  match xs,K with
  | [y,y2],K =>
   obtain⟨a,rfl,ha⟩:=qx
   obtain⟨w,w2,rfl,qw,qw2⟩:=qs.two_of
   dsimp only[V1] at K
   cases hi:h[i]? with
   | none=>rw[hi] at K;exact Zf K
   | some ob =>
    rw[hi] at K
    cases ob with
    | dct kvs =>
     dsimp only at K
     cases ek:keyI y with
     | none=>rw[ek] at K;exact Zf K
     | some k =>
      rw[ek] at K
      dsimp only at K
      obtain⟨ws,e1,r1⟩:=N.at hi ha
      cases Jhw ek qw
      cases rv with
      | @cons _ _ _ _ ru t =>
      cases t with
      | @cons _ u2 _ _ ru2 t =>
      cases t
      cases (show v=.ref a from rx)
      obtain⟨z,hd,ps,rel,dd⟩:=Jut N.inv.hok e1
      have hz:ps.length<=sizeLine:=by rw[<- rel.length];exact z
      refine call_meetsIn Zdb dd.typeIs PySem.F.entry_dict_setdefault (PySem.F.args_dict_setdefault_3 _ _ _) (kt_meets_setdefault (QQ X.prog X.w) a (Jvo ru) hd u2) ⟨ps,dd,hz,λ v' hv=>?_,λ hn h' dd' hs=>?_⟩
      ·rcases r1.get k with⟨p,q⟩|⟨v1,w1,p,q,r⟩
       ·have rr:=rel.val k
        rw[q] at rr
        rw[RelO.none_of rr] at hv
        cases hv
       ·rw[p] at K
        have rr:=rel.val k
        rw[q,hv] at rr
        exact fin0 (w:=w1) N K r _ _ (N.inv.tok _) rr
      ·rcases r1.get k with⟨p,q⟩|⟨v1,w1,p,q,r⟩
       ·rw[p] at K
        dsimp only at K
        split at K
        ·rename_i hl
         have he:∃q,h'.get? a=Za q:=let ⟨q,_,_,hq,_⟩:=dd';⟨q,hq⟩
         have hlen:(putK ws k w2).length<=sizeLine:=by rw[Jh3 q,ZE,r1.length];exact hl
         have I4:=Jur (t':=s.toks+1) N.inv (by rw[e1];exact ZaE) hs he (Jxq hlen hd (rel.put k ru2) dd')
         have n:Nxt ι H ι (upd H a (.dK (putK ws k w2))):=⟨⟨[],by simp⟩,Ext.upd_mut e1 (by rw[e1];exact ZaE)⟩
         obtain⟨R4,_⟩:=N.rel.write (o:=.dK (putK ws k w2)) (io:=.dct (kvs++[(k,y2)])) ha e1 (by rw[e1];exact ZaE) ⟨_,Jy,(congrArg (λ P=>RPs X.K ι (upd H a (.dK (putK ws k w2))) (kvs++[(k,y2)]) P) (Jh3 q)).mpr (RPs.mono n _ _ (r1.snoc qw2))⟩
         exact K _ _ _ ι ⟨I4,R4,N.st.mono n⟩ n ⟨w2,ru2,RV.mono n _ _ qw2⟩
        ·exact Zf K
       ·have rr:=rel.val k
        rw[q,hn] at rr
        exact Zf rr
    | _=>exact Zf K
  | [],K=>exact Zf K
  | [_],K=>exact Zf K
  | _::_::_::_,K=>exact Zf K
 | _=>cases xs<;>exact Zf K
end
theorem RPs.any {K:W.Frag}{ι:List Zi}{H:Hp}(k:Key):∀{xs:List (Key×IV)}{vs:List (Key×V)},RPs K ι H xs vs->(xs.any λ kv=>decide (kv.1=k))=vs.any λ kv=>decide (kv.1=k)
 | [],_,h=>by
  have e:_=[]:=h
  subst e
  rfl
 | x::xs,_,h=>by
  obtain⟨v,r,rfl,q,t⟩:=h
  rw[Zct,Zct,RPs.any k t]
theorem RPs.upd {K:W.Frag}{ι:List Zi}{H:Hp}{k:Key}{v:IV}{w:V}(q:RV K ι H v w):∀{xs:List (Key×IV)}{vs:List (Key×V)},RPs K ι H xs vs->RPs K ι H (xs.map λ kv=>if kv.1=k then(kv.1,v) else kv) (vs.map λ kv=>if kv.1=k then(kv.1,w) else kv)
 | [],_,h=>by
  have e:_=[]:=h
  subst e
  exact rfl
 | x::xs,_,h=>by
  obtain⟨v',r,rfl,q',t⟩:=h
  rw[Zs,Zs]
  by_cases e:x.1=k
  ·rw[if_pos e,if_pos e]
   exact⟨w,_,rfl,q,RPs.upd q t⟩
  ·rw[if_neg e,if_neg e]
   exact⟨v',_,rfl,q',RPs.upd q t⟩
section
variable {ce:CeT}{X:Cx}
def Xg (x y:IV)(h:IH):Res IV:=match x with
 | .ref i=>(match h[i]? with
  | some (.dct kvs)=>(match keyI y with
   | some k=>(match valI kvs k with
    | some v=>.ok v h
    | none=>.stuck)
   | none=>.stuck)
  | _=>.stuck)
 | _=>.stuck
theorem J1y:IxI ce X Xg:=by
 intro value slice pj s σ H ι σi h x y v u Q E N rx ry K hs
 obtain⟨xv,rx,qx⟩:=rx
 obtain⟨yv,ry,qy⟩:=ry
 cases x with
 | ref i =>
  obtain⟨a,e1,ha⟩:=qx
  subst e1
  dsimp only[Xg] at K
  cases hi:h[i]? with
  | none=>rw[hi] at K;exact Zf K
  | some ob =>
   rw[hi] at K
   cases ob with
   | dct kvs =>
    dsimp only at K
    cases ek:keyI y with
    | none=>rw[ek] at K;exact Zf K
    | some k =>
     rw[ek] at K
     dsimp only at K
     obtain⟨ws,e1,r1⟩:=N.at hi ha
     cases Jhw ek qy
     cases (show v=.ref a from rx)
     obtain⟨z,hd,ps,rel,dd⟩:=Jut N.inv.hok e1
     rcases r1.get k with⟨p,q⟩|⟨v1,w1,p,q,r⟩
     ·rw[p] at K;exact Zf K
     ·rw[p] at K
      have rr:=rel.val k
      rw[q] at rr
      obtain⟨w',hw,rw'⟩:=RelO.some_of rr
      exact ZcB (x:=w') dd.typeIs PySem.F.slot_dict_getitem.lookup (wpAny_getItem_of (Q:=λ r s'=>r=w'/\Q r s') (Jvo ry) dd.mapOf hw ⟨rfl,fin0 N K r _ _ (N.inv.tok _) rw'⟩) hs
   | _=>exact Zf K
 | _=>exact Zf K
noncomputable def cInD (x c:IV)(h:IH):Res IV:=match c with
 | .ref i=>(match h[i]? with
  | some (.dct kvs)=>(match keyI x with
   | some k=>.ok (.bl (valI kvs k).isSome) h
   | none=>.stuck)
  | _=>.stuck)
 | _=>.stuck
theorem J05:OpI ce X (Zak .In) cInD:=by
 intro pj s σ H ι σi h x y v u Q E N rx ry K
 obtain⟨xv,rx,qx⟩:=rx
 obtain⟨yv,ry,qy⟩:=ry
 cases y with
 | ref i =>
  obtain⟨a,e1,ha⟩:=qy
  subst e1
  dsimp only[cInD] at K
  cases hi:h[i]? with
  | none=>rw[hi] at K;exact Zf K
  | some ob =>
   rw[hi] at K
   cases ob with
   | dct kvs =>
    dsimp only at K
    cases ek:keyI x with
    | none=>rw[ek] at K;exact Zf K
    | some k =>
     rw[ek] at K
     dsimp only at K
     obtain⟨ws,e1,r1⟩:=N.at hi ha
     cases Jhw ek qx
     cases (show u=.ref a from ry)
     obtain⟨z,hd,ps,rel,dd⟩:=Jut N.inv.hok e1
     refine wpAny_in_of (Jvo rx) hd dd.mapOf ?_
     rw[<- (rel.val k).isSome_eq]
     have es:(valV ws k).isSome=(valI kvs k).isSome:=by
      rcases r1.get k with⟨p,q⟩|⟨v1,w1,p,q,r⟩<;>rw[p,q]<;>rfl
     rw[es]
     exact fin0 N K rfl _ _ (N.inv.tok _) rfl
   | _=>exact Zf K
 | _=>exact Zf K
end
def leZ (a b:Int):Bool:=decide (a<=b)
def Xk (ns:List Int):List Int:=ns.mergeSort leZ
theorem Js3 (ns:List Int):(Xk ns).Pairwise (· <= ·):=by
 have:=List.pairwise_mergeSort (le:=leZ) (λ a b c h1 h2=>by simp only[leZ,decide_eq_true_eq] at *;omega) (λ a b=>by simp only[leZ,Zaq,decide_eq_true_eq];omega) ns
 exact this.imp λ h=>by simpa [leZ] using h
theorem Jlq {ns ns':List Int}(p:ns'.Perm ns)(s:ns'.Pairwise (· <= ·)):ns'=Xk ns :=
 List.Perm.eq_of_pairwise (le:=(· <= ·)) (λ a b _ _ h1 h2=>Int.le_antisymm h1 h2) s (Js3 ns) (p.trans (List.mergeSort_perm ns leZ).symm)
theorem Xp:∀{us:List Zd}{ns:List Int},ZcU us ns->Vals (ns.map V.int) us
 | _,_,.nil=>.nil
 | _,_,.cons _ _ r=>.cons ⟨_,rfl⟩ (Xp r)
theorem Jh5 {K:W.Frag}{ι:List Zi}{H:Hp}:∀ns:List Int,RVs K ι H (ns.map IV.int) (ns.map V.int)
 | []=>rfl
 | _::ns=>⟨_,_,rfl,rfl,Jh5 ns⟩
def srtI (xs:List IV):Option (List IV):=match JN xs with
 | some ns=>Za ((Xk ns).map .int)
 | none=>Zb
section
variable {ce:CeT}{X:Cx}
def Xl:IV->IH->Res IV
 | .ref i,h=>match h[i]? with
  | some (.lst xs)=>if xs.length<64 then(match srtI xs with
   | some ys=>.ok (.ref h.length) (h++[.lst ys])
   | none=>.stuck) else .stuck
  | _=>.stuck
 | _,_=>.stuck
theorem Jq7:Qu ce X (.builtin "sorted") (on1 Xl):=V8 λ pj s σ H ι σi h x xv u Q E N ru qx K=>by
 cases x with
 | ref i =>
  obtain⟨a,e1,ha⟩:=qx
  subst e1
  cases ru
  dsimp only[Xl] at K
  cases hi:h[i]? with
  | none=>rw[hi] at K;exact Zf K
  | some ob =>
   rw[hi] at K
   cases ob with
   | lst xs =>
    dsimp only at K
    split at K
    ·rename_i h64
     obtain⟨vs,e1,r1⟩:=N.at hi ha
     obtain⟨its,rv,pl,hz⟩:=N.inv.list (SqL.of e1)
     have li:its.length=xs.length:=by rw[<- rv.length,r1.length]
     have hb:64<=sizeLine:=by decide
     have Zeb:H (s.heap.objs.size+1)=Zb:=N.inv.hok.fresh (Zao _)
     unfold srtI at K
     cases ei:JN xs with
     | some ns =>
      rw[ei] at K
      have are:=Xa ei r1 rv
      have ln:=Jcc are
      refine sorted_ints pl.isList are (by omega) λ out ns' hI hp hs=>?_
      have en:=Jlq hp hs
      subst en
      obtain⟨e,he⟩:=sortedAll_at s.heap its out
      have hl:((Xk ns).map V.int).length<=sizeLine:=by rw[Zo,hp.length_eq];omega
      have I':=N.inv.laid (a:=s.heap.objs.size+1) (o:=.lst ((Xk ns).map V.int)) (h':=sortedAll s.heap its out) (t':=s.toks) (λ _ _=>sortedAll_old) (Zao _) ⟨hl,out.toList,e,Xp hI,he⟩
      exact finA N K (s.heap.objs.size+1) Zeb ⟨_,Jy,Jh5 _⟩ _ _ I' rfl
     | none =>
      rw[ei] at K
      exact Zf K
    ·exact Zf K
   | _=>exact Zf K
 | _=>exact Zf K
end
section
variable {pr:ZA}{wd:ZM}{B:ZG}{R:Zd8->Zk->Prop}{it:Zi}{fps wrs:List Zi}{n:Nat}{P:Nat->Zd->Prop}{St:Nat->ZT->Prop}
end
section
variable {pr:ZA}{wd:ZM}{B:ZG}{E:QvT}{z:Zk}{l:Zi}{us:List Zd}{ns:List Int}{Q:QvT}
end
section
variable {ce:CeT}{X:Cx}
end
theorem RVs.erase {K:W.Frag}{ι:List Zi}{H:Hp}:∀{xs:List IV}{vs:List V}(k:Nat),RVs K ι H xs vs->RVs K ι H (xs.eraseIdx k) (vs.eraseIdx k)
 | [],vs,k,h=>by
  cases (show vs=[] from h)
  exact rfl
 | _::_,_,0,h=>by
  obtain⟨v,r,rfl,q,t⟩:=h
  exact t
 | _::_,_,k+1,h=>by
  obtain⟨v,r,rfl,q,t⟩:=h
  exact⟨v,r.eraseIdx k,rfl,q,RVs.erase k t⟩
section
variable {ce:CeT}{X:Cx}
def popI:IV->List IV->IH->Res IV
 | .ref i,[.int k],h=>match h[i]? with
  | some (.lst xs)=>if 0<=k/\k<1000000 then(match xs[k.toNat]? with
   | some y=>.ok y (h.set i (.lst (xs.eraseIdx k.toNat)))
   | none=>.stuck) else .stuck
  | _=>.stuck
 | _,_,_=>.stuck
theorem J02:MtI ce X "list" "list.pop" popI:=by
 intro pj s σ H ι σi h x xs v us Q E N rx rs K
 obtain⟨xv,rx,qx⟩:=rx
 obtain⟨vs,rv,qs⟩:=rs
 cases x with
 | ref i =>
  match xs,K with
  | [y],K =>
   cases y with
   | int k =>
    obtain⟨a,rfl,ha⟩:=qx
    obtain⟨w,rfl,qw⟩:=qs.one_of
    cases (show w=.int k from qw)
    dsimp only[popI] at K
    cases hi:h[i]? with
    | none=>rw[hi] at K;exact Zf K
    | some ob =>
     rw[hi] at K
     cases ob with
     | lst zs =>
      dsimp only at K
      split at K
      ·rename_i hk
       cases hy:zs[k.toNat]? with
       | none=>rw[hy] at K;exact Zf K
       | some y =>
        rw[hy] at K
        obtain⟨ws,e1,r1⟩:=N.at hi ha
        obtain⟨z,hz,qz⟩:=r1.get hy
        have lt:k.toNat<ws.length:=(Zn.mp hz).1
        exact Jp9 (Jsg (X:=X.wish E)) N.inv rx rv ⟨a,ws,k,k.toNat,z,rfl,rfl,e1,by omega,by omega,seqIndex_of hk.1 (by omega),hz,finW (ys:=zs.eraseIdx k.toNat) N K ha e1 (r1.erase _) qz⟩
      ·exact Zf K
     | _=>exact Zf K
   | _=>exact Zf K
  | [],K=>exact Zf K
  | y::_::_,K=>cases y<;>exact Zf K
 | _=>cases xs with
  | nil=>exact Zf K
  | cons y r=>cases y<;>cases r<;>exact Zf K
def VX:IV->List IV->IH->Res IV
 | .ref i,[.ref j],h=>match h[i]? with
  | some (.lst xs)=>(match h[j]? with
   | some (.lst ys)=>if xs.length+ys.length<=sizeLine then .ok .non (h.set i (.lst (xs++ys))) else .stuck
   | _=>.stuck)
  | _=>.stuck
 | _,_,_=>.stuck
theorem Jsa:MtI ce X "list" "list.extend" VX:=by
 intro pj s σ H ι σi h x xs v us Q E N rx rs K
 obtain⟨xv,rx,qx⟩:=rx
 obtain⟨vs,rv,qs⟩:=rs
 cases x with
 | ref i =>
  match xs,K with
  | [y],K =>
   cases y with
   | ref j =>
    obtain⟨a,rfl,ha⟩:=qx
    obtain⟨w,rfl,b,rfl,hb⟩:=qs.one_of
    dsimp only[VX] at K
    cases hi:h[i]? with
    | none=>rw[hi] at K;exact Zf K
    | some ob =>
     rw[hi] at K
     cases ob with
     | lst zs =>
      dsimp only at K
      cases hj:h[j]? with
      | none=>rw[hj] at K;exact Zf K
      | some oj =>
       rw[hj] at K
       cases oj with
       | lst ys =>
        dsimp only at K
        split at K
        ·rename_i hl
         obtain⟨ws,e1,r1⟩:=N.at hi ha
         obtain⟨ws2,e2,r2⟩:=N.at hj hb
         exact Jp9 (Jpb (X:=X.wish E)) N.inv rx rv ⟨a,b,ws,ws2,rfl,rfl,e1,e2,by rw[r1.length,r2.length];exact hl,finW (ys:=zs++ys) N K ha e1 (r1.append r2) rfl⟩
        ·exact Zf K
       | _=>exact Zf K
     | _=>exact Zf K
   | _=>exact Zf K
  | [],K=>exact Zf K
  | y::_::_,K=>cases y<;>exact Zf K
 | _=>cases xs with
  | nil=>exact Zf K
  | cons y r=>cases y<;>cases r<;>exact Zf K
def isK (k:Int):Zd->Bool
 | .int a _=>a==k
 | _=>Zj
theorem Jow:∀(us:List Zd)(ns:List Int),us.length=ns.length->(∀i v,us[i]?=Za v->∃t:Tok,v=Zdo (ns.getD i 0) t)->ZcU us ns
 | [],[],_,_=>.nil
 | u::us,n::ns,hl,h=>by
  obtain⟨t,e⟩:=h 0 u rfl
  cases (show u=.int n t from e)
  exact .cons n t (Jow us ns (by simpa using hl) λ i v q=>h (i+1) v q)
 | [],_::_,hl,_=>by cases hl
 | _::_,[],hl,_=>by cases hl
def eLR (aa:A1):E1:=λ σ h=>(aa σ h).bind λ xs h1=>match xs with
 | [.int j]=>if 0<=j/\j<=1000 then .ok (.ref h1.length) (h1++[.lst (rngI 0 j)]) else .stuck
 | _=>.stuck
theorem Jpk (j:Int):rngI 0 j=((Z8 j.toNat).map λ k=>((k:Nat):Int)).map IV.int:=by
 simp[rngI]
theorem Jou {a:Expr}{aa:A1}{p pos p2 pos2:Pos}(hh:X.A.handled=Zb)(g1:Gl X "list")(m1:X.mg "list"=Zb)(g2:Gl X "range")(m2:X.mg "range"=Zb)(ha:PAi ce X [a] aa)(hs:Z9 [a] X.env=[(Zj,ZaJ a X.env)]) :
  PEi ce X (.Call (.Name "list" p) [.Call (.Name "range" p2) [a] [] pos2] [] pos) (eLR aa):=λ pj s σ H ι σi h Q E N K=>by
 refine ZQ (Qg N.inv g1 m1 rfl ?_)
 refine Zaa ?_ rfl rfl
 refine Zdz ?_
 refine ZQ (Qg N.inv g2 m2 boot_range ?_)
 refine Zaa ?_ hs rfl
 refine(ha pos2).run N K λ xs h1 us s1 H1 ι1 N1 n1 r1 K1=>?_
 obtain⟨vs,rv,qs⟩:=r1
 match xs,K1 with
 | [.int j],K1 =>
  obtain⟨w,rfl,qw⟩:=qs.one_of
  cases (show w=.int j from qw)
  obtain⟨u,rfl,t,rfl⟩:=Qq rv
  dsimp only at K1
  split at K1
  ·rename_i hj
   refine call_range_1 (Zd0 ?_)
   have I2:=N1.inv.kept (h':=s1.heap.push { cls:=.type "range",data:=.fields #[.int 0 s1.toks,.int j t,.int 1 (s1.toks+1)] }) (t':=s1.toks+1+1) λ b o e=>Zg _ e
   refine call_list_range (n:=j.toNat) hh (Zy _ rfl) ?_ ?_ (by omega) λ h3 tk acc c' keep hget its=>?_
   ·exact small_one (by decide) (by decide) (by omega) (by omega)
   ·rw[rangeSize_one]
    split<;>omega
   ·have sb:(1000:Nat)<=sizeLine:=by decide
    have are:ZcU acc.toList ((Z8 j.toNat).map λ k=>((k:Nat):Int)):=by
     refine Jow _ _ (by simp[its.1]) λ i v hv=>?_
     obtain⟨t,rfl⟩:=its.2 i v (by simpa using hv)
     have hi:i<j.toNat:=by
      have:=(Zn.mp hv).1
      simp only[Zdf,its.1] at this
      exact this
     exact⟨t,by simp[Z3,hi]⟩
    rw[Jpk] at K1
    have Zeb:H1 (s1.heap.objs.size+1)=Zb:=N1.inv.hok.fresh (Zao _)
    have hz:(s1.heap.push { cls:=.type "range",data:=.fields #[.int 0 s1.toks,.int j t,.int 1 (s1.toks+1)] }).objs.size=s1.heap.objs.size+1:=size_push' ..
    rw[hz] at hget ⊢
    have I':=N1.inv.laid (a:=s1.heap.objs.size+1) (o:=.lst (((Z8 j.toNat).map λ k=>((k:Nat):Int)).map V.int)) (h':=h3) (t':=tk) (λ b o e=>keep b o (Zg _ e)) (Zao _) ⟨by simp;omega,acc.toList,c',Xp are,by simpa using hget⟩
    exact finA N1 K1 (s1.heap.objs.size+1) Zeb ⟨_,Jy,Jh5 _⟩ _ _ I' rfl
  ·exact Zf K1
 | [],K1=>exact Zf K1
 | [.non],K1=>exact Zf K1
 | [.bl _],K1=>exact Zf K1
 | [.ref _],K1=>exact Zf K1
 | [.str _],K1=>exact Zf K1
 | [.tup _],K1=>exact Zf K1
 | [.rol _],K1=>exact Zf K1
 | x::_::_,K1=>cases x<;>exact Zf K1
end
section
variable {prog:ZA}{w:ZM}{A:ZG}{E:QvT}{s:Zk}
end
open AutoSeq1 (wpAny_loadPart') in
section
variable {prog:ZA}{w:ZM}{A:ZG}{E:QvT}{s:Zk}
end
section
variable {ce:CeT}{X:Cx}
end
def Xe (a:ZcL):Option Str:=match a with
 | { posonlyargs:=[],args:=[p],vararg:=Zb,kwonlyargs:=[],kw_defaults:=[],kwarg:=Zb,defaults:=[] }=>Za p.arg
 | _=>Zb
abbrev lamQ (q:Str):Str:=q++".<locals>."++"<lambda>"
abbrev lamO (q:Str)(params:ZcL)(body:Expr)(scope:Zba)(cl:List (Str×Zi))(pm ctv:Zd)(c:Zi):Obj:=W.kla_obj "<lambda>" (lamQ q) params body scope cl pm c ctv
def Q7 (mg:Str->Option Zd)(base:ZT):Prop :=
 ∃bm ob,mg "__builtins__"=Za (.ref bm)/\bm≠Zcz/\bm≠Zm/\base.get? bm=Za ob/\ob.cls=.type "module"/\ob.dict=Za Zcz/\ob.data=.plain
theorem QL.rec {H:Hp}{q:Str}{cv:Zd}{P:ZA}{w:ZM}{h:ZT}(l:QL H q cv)(hok:HOk P w H h):h.CodeRec cv (lamQ q):=by
 obtain⟨c,oc,vs,t,e1,e2,e3,e4⟩:=l
 exact⟨c,oc,vs,t,e1,(hok c _ e2).1,e3,e4⟩
theorem QL.mono {H H':Hp}{q:Str}{cv:Zd}(fz:∀b o u,H b=Za (.frz o u)->H' b=Za (.frz o u))(l:QL H q cv):QL H' q cv:=by
 obtain⟨c,oc,vs,t,e1,e2,r⟩:=l
 exact⟨c,oc,vs,t,e1,fz _ _ _ e2,r⟩
theorem Jgz {pos:Pos}{a b:Int}{c cv:Zd}:∀(l:List Zd),TriplesOk l->ZdK pos (l++[ZbC a,ZbC b,c])=Za cv->ZdK pos l=Za cv∨cv=c
 | [],_,e=>by
  simp only[Za9,ZbC,ZdK] at e
  split at e
  ·cases e;exact .inr rfl
  ·cases e
 | .int x t::.int y u::z::rest,h,e=>by
  simp only[ZH,ZdK] at e ⊢
  split at e
  ·rename_i hh
   rw[if_pos hh]
   exact .inl e
  ·rename_i hh
   rw[if_neg hh]
   exact Jgz rest h e
 | [.int _ _],h,_=>(show False from h).elim
 | [.int _ _,.int _ _],h,_=>(show False from h).elim
section
variable {ce:CeT}{X:Cx}
theorem Now.pinO {pj:PnT}{ι:List Zi}{σi:ISt}{h:IH}{σ:L2.St}{H:Hp}{s:Zk}{f:Zi}{fo:Obj}(N:Now ce X pj ι σi h σ H s)(e:s.heap.get? f=Za fo)(F:FpOk X pj H f)(d:∀v,fo.data≠.cell v):Now ce X (pj++[(f,fo)]) ι σi h σ H s:=by
 have I:=N.inv.pinned (fp:=[f]) (λ b hb=>by rw[ZI.mp hb];exact F) (λ b hb=>by rw[ZI.mp hb];exact⟨fo,e,d⟩)
 have ep:Qz [f] s.heap=[(f,fo)]:=by simp[Qz,e]
 rw[ep] at I
 exact⟨I,N.rel,N.st⟩
theorem Jr6 {q:Str}{j:Nat}{params:ZcL}{body:Expr}{scope:Zba}{pos:Pos}{cl:List (Str×Zi)}{pj:PnT}{s:Zk}{σ:L2.St}{H:Hp}{ι:List Zi}{σi:ISt}{h:IH}{Q:QvT}{E:QvT}
  (N:Now ce X pj ι σi h σ H s)(hj:h[j]?=Za (.tab q))(hcd:W.codeIn X.K X.env.code q=Ze)(hq:X.env.qual=q++".<locals>.")(hdef:defaultsOf params X.env=([],[]))(hcl:ZdU scope X.env=pure cl)(B:Q7 X.mg X.base)
  (K:∀f c pm ctv s' H',Now ce X (pj++[(f,lamO q params body scope cl pm ctv c)]) ι σi h σ H' s'->Nxt ι H ι H'->QL H' q (.ref c)->Q (.ref f) s') :
  Zq (Z1 X.prog X.w) X.A (ZaJ (.Lambda params body scope pos) X.env) Q E s:=by
 obtain⟨a,ha,hc,ps,hP,ht,hcodes⟩:=N.rel.at_ j _ hj
 obtain⟨c,ec,hhd⟩:=hc _ hcd
 have I:=N.inv
 have C:=W.codeHd_of_K I.kIn hhd
 have gP:s.heap.get? a=Za (W.tabObj ps):=I.hok a _ hP
 have hg:s.heap.Ns Zm X.mg:=I.ok.mod.glob.keeps I.bk
 obtain⟨bm,ob,b1,b2,b3,b4,b5,b6,b7⟩:=B
 have gb:=I.bs bm ob b4
 have nba:bm≠a:=λ z=>by rw[z,hP] at gb;cases gb.2
 have hb:s.heap.BuiltinsAt X.mg a:=⟨bm,ob,b1,b2,b3,nba,gb.1,b5,b6,b7⟩
 have nga:Zm≠a:=λ z=>by
  obtain⟨o,es,ep,e,d,_⟩:=hg
  rw[z,gP] at e
  cases e
  cases d
 refine W.kla_eval hdef ?_
 rw[hq]
 cases ea:ZdK pos ps.toList with
 | some cv =>
  have LC:=hcodes pos cv ea
  obtain⟨c',oc,vs,t,ecv,_⟩:=id LC
  subst ecv
  refine W.kla_makeFunctionHit hcl I.ok.glob hg ec C gP ht ea hb λ ctv h' tk hk hsz=>?_
  have I1:=I.kept (h':=h'.push (lamO q params body scope cl ((X.mg "__name__").getD .none) ctv c')) (t':=tk) λ b o e=>Zg _ (hk b o e)
  have N1:Now ce X pj ι σi h σ H _:=⟨I1,N.rel,N.st⟩
  exact K h'.objs.size c' _ ctv _ H (N1.pinO (Zy _ rfl) (I.fpOk hsz (I.hok.fresh hsz)) λ v z=>by
   have z':Data.func _=ZeC v:=z
   cases z') .refl LC
 | none =>
  refine W.kla_makeFunction hcl I.ok.glob hg ec C gP ht ea nga hb λ c' ctv h' tk hx hge hlt hrec htb=>?_
  obtain⟨c2,oc,vs,t,e2,hoc,hd,hv⟩:=hrec
  cases e2
  generalize hps:ps++#[ZbC pos.line,ZbC pos.col,.ref c']=ps' at htb
  generalize hob:lamO q params body scope cl ((X.mg "__name__").getD .none) ctv c'=fo
  have fc:H c'=Zb:=I.hok.fresh hge
  have nca:c'≠a:=λ z=>by rw[z,hP] at fc;cases fc
  have lts:s.heap.objs.size<=h'.objs.size:=Zah hge (Zc6 hlt)
  obtain⟨H',hH⟩:∃H',H'=upd (upd H a (.tbl ps')) c' (.frz oc (.own 0)):=⟨_,rfl⟩
  have Ha:H' a=Za (.tbl ps'):=by rw[hH,Jo (ZW nca),Jy]
  have Hc:H' c'=Za (.frz oc (.own 0)):=by rw[hH,Jy]
  have Ho:∀b,b≠a->b≠c'->H' b=H b:=λ b h1 h2=>by rw[hH,Jo h2,Jo h1]
  have kp:∀b o,b≠a->s.heap.get? b=Za o->(h'.push fo).get? b=Za o:=λ b o hb e=>Zg _ (hx b o hb e)
  have ga:(h'.push fo).get? a=Za (W.tabObj ps'):=Zg _ htb
  have frz:∀b o u,H b=Za (.frz o u)->H' b=Za (.frz o u):=λ b o u e=>by rw[Ho b (λ z=>by rw[z,hP] at e;cases e) (λ z=>by rw[z,fc] at e;cases e)];exact e
  have tup:∀b xs,H b=Za (.tup xs)->H' b=Za (.tup xs):=λ b xs e=>by rw[Ho b (λ z=>by rw[z,hP] at e;cases e) (λ z=>by rw[z,fc] at e;cases e)];exact e
  have own:∀b x,H b=Za (.own x)->H' b=Za (.own x):=λ b x e=>by rw[Ho b (λ z=>by rw[z,hP] at e;cases e) (λ z=>by rw[z,fc] at e;cases e)];exact e
  have I1:Inv X pj σ H' { s with heap:=h'.push fo,toks:=tk }:=by
   refine I.step (g':=s.gens) (d':=s.drawn) (ch:=[]) (λ b hb=>absurd hb (by simp)) (λ b o _ _ _ e n=>kp b o (λ z=>by rw[z,hP] at n;cases n) e) (λ b o _ _ _ e n=>⟨o.slots,kp b o (λ z=>by rw[z,hP] at n;cases n) e⟩) (λ b o _ e n=>?_) (λ b o _ e=>?_) tup frz (λ b qs e=>?_) (λ m hm=>?_) (λ b u e=>?_) I.bare
   ·rw[Ho b (λ z=>by rw[z,hP] at n;cases n) (ZD (ZJ (Zx e) hge))];exact n
   ·by_cases hb:b=a
    ·subst hb;exact⟨_,ga⟩
    ·exact⟨o,kp b o hb e⟩
   ·by_cases hb:b=a
    ·subst hb
     rw[hP] at e
     cases e
     exact⟨_,by rw[Ha,<-hps]⟩
    ·exact⟨#[],by rw[Ho b hb (λ z=>by rw[z,fc] at e;cases e),e];simp⟩
   ·obtain⟨o,es,ep,ho,r⟩:=hm
    exact⟨o,es,ep,kp _ o (λ z=>by have:=I.free;rw[z,hP] at this;cases this) ho,r⟩
   ·by_cases hb:b=a
    ·subst hb
     rw[Ha] at e
     cases e
     exact ga
    ·by_cases hb2:b=c'
     ·subst hb2
      rw[Hc] at e
      cases e
      exact⟨Zg _ hoc,_,Zg _ hoc⟩
     ·rw[Ho b hb hb2] at e
      refine(I.hok b u e).stay (λ d v hd r=>kp d v (λ z=>?_) r) (λ d z=>own d _ z) tup
      subst z
      rcases hd with z|z
      ·exact hb z.symm
      ·rw[hP] at z;cases z
  have n:Nxt ι H ι H':=⟨⟨[],by simp⟩,⟨tup,frz⟩⟩
  have LC:QL H' q (.ref c'):=⟨c',oc,vs,t,rfl,Hc,hd,hv⟩
  have R:Rel ce X.K ι h H':=by
   refine⟨N.rel.len,N.rel.nd,λ i o e=>?_⟩
   obtain⟨b,eb,ro⟩:=N.rel.at_ i o e
   refine⟨b,eb,?_⟩
   by_cases hb:b=a
   ·subst hb
    have hij:i=j:=N.rel.inj eb ha
    subst hij
    rw[hj] at e
    cases e
    refine⟨hc,ps',Ha,?_,λ pos' cv ea'=>?_⟩
    ·rw[<- hps,Array.toList_append]
     exact TriplesOk_snoc _ _ _ _ ht
    ·rw[<- hps,Array.toList_append] at ea'
     rcases Jgz ps.toList ht ea' with z|z
     ·exact(hcodes pos' cv z).mono frz
     ·rw[z];exact LC
   ·refine ro.mono n λ u hu=>?_
    rw[Ho b hb (λ z=>by rw[z,fc] at hu;cases hu)]
    exact hu
  have N1:Now ce X pj ι σi h σ H' _:=⟨I1,R,N.st.mono n⟩
  subst hob
  exact K h'.objs.size c' _ ctv _ H' (N1.pinO (Zy _ rfl) (I.fpOk lts (by rw[Ho _ (Zbq (ZJ (Zx gP) lts)) (Zbq hlt)];exact I.hok.fresh lts)) λ v z=>by
   have z':Data.func _=ZeC v:=z
   cases z') n LC
end
abbrev envL (q:Str)(scope:Zba)(L f:Zi)(cd:Zd)(cl:List (Str×Zi)):Env:=newEnv scope L Zm cl (lamQ q++".<locals>.") (Za f) cd Zb Zcz
def cxL (X:Cx)(A:ZG)(N':List Str)(q:Str)(scope:Zba)(f:Zi)(cd:Zd)(s:Zk)(H:Hp):Cx :=
 { X with A:=A.deeper (envL q scope s.heap.objs.size f cd (clOf X.env.cells scope.names [])),N:=N',s₀:=s,H₀:=H,env:=envL q scope s.heap.objs.size f cd (clOf X.env.cells scope.names []),outer:=X.stack,stack:=envL q scope s.heap.objs.size f cd (clOf X.env.cells scope.names [])::X.stack,ex:=[],calm:=Ze,fn:=λ _=>Zj,pn:=[],xe:=λ _ _=>False }
structure LamSc (N0:List Str)(sc₀:List (Str×Zbb))(x:Str)(caps:List Str)(js:List Nat)(scope:Zba):Prop where
 kind:scope.kind=.function
 co:scope.isCoroutine=Zj
 gen:scope.isGenerator=Zj
 nocell:∀y∈scope.names,y.2≠.cell
 par:scope.names.lookup x=Za .local
 free:∀y∈scope.names,y.2=.free->sc₀.lookup y.1=Za .cell
 fr:∀y,scope.names.lookup y=Za .free->(y,.free)∈scope.names
 cap:∀(k j:Nat)(y:Str),js[k]?=Za j->caps[k]?=Za y->N0[j]?=Za y/\scope.names.lookup y=Za .free
 len:js.length=caps.length
 nd:(x::caps).Nodup
theorem Jq6 {p:Arg}{nm qu:Str}{body:Expr}{scope:Zba}{cl:List (Str×Zi)}{pm cd ctv u:Zd}:ZdH (W.kla_fn nm qu { posonlyargs:=[],args:=[p],vararg:=Zb,kwonlyargs:=[],kw_defaults:=[],kwarg:=Zb,defaults:=[] } body scope cl pm cd ctv) ⟨[u],[]⟩=pure [(p.arg,u)]:=by
 have e:(Zb1 p.arg [(p.arg,u)]).isNone=Zj:=by simp
 unfold ZdH
 simp[ZcS,e]
 rfl
section
variable {ce:CeT}{X:Cx}
theorem Jvp {k:Nat}{A:ZG}{q x:Str}{caps:List Str}{js:List Nat}{params:ZcL}{body:Expr}{scope:Zba}{pm ctv:Zd}{c f:Zi}{m:E1}{v:IV}{u:Zd}{pj:PnT}{s:Zk}{σ:L2.St}{H:Hp}{ι:List Zi}{σi:ISt}{h:IH}{Q:QvT}{E:QvT}
  (hA:A.frames=Za X.stack)(hr:Room (k+1) A)(N:Now ce X pj ι σi h σ H s)(hf:s.heap.get? f=Za (lamO q params body scope (clOf X.env.cells scope.names []) pm ctv c))(LC:QL H q (.ref c))(hx:Xe params=Za x)(S:LamSc X.N X.env.scope.names x caps js scope)
  (hb:∀s' H',PEi ce (cxL X A (x::caps) q scope f (.ref c) s' H') body m)(ru:RU X.K ι H v u)(K:Kont ce X RU pj ι σi σ H ((m (Za v::js.map λ j=>(σi[j]?).join) h).nx) Q E) :
  Zq (Z1 X.prog X.w) A (call (.ref f) [u]) Q E s:=by
 have I:=N.inv
 have e0:=I.env0
 have lim:s.heap.NoLimit:=e0.mod.nolimit.keeps λ b o e=>(e0.bs b o e).1
 refine Zc0 (W.kla_callFunE hr.depth hf rfl S.co S.gen rfl (LC.rec I.hok) ?_)
 have hbind:ZdH (W.kla_fn "<lambda>" (lamQ q) params body scope (clOf X.env.cells scope.names []) pm (.ref c) ctv) ⟨[u],[]⟩=pure [(x,u)]:=by
  unfold Xe at hx
  split at hx
  ·cases hx
   exact Jq6
  ·cases hx
 rw[hbind]
 refine Zw (wpAny_newFunctionEnv S.nocell (λ y hy=>by rw[ZI.mp hy];exact S.par) (λ h3 hns hsb=>⟨lim.fresh _ hsb,?_⟩) S.kind)
 obtain⟨w,rw',qw⟩:=ru
 have keep:∀b o,s.heap.get? b=Za o->h3.get? b=Za o:=λ b o z=>(hsb.2 b (ZD (Zx z))).trans (Zg _ z)
 have cells':∀y d,(clOf X.env.cells scope.names []).lookup y=Za d->X.env.cells.lookup y=Za d:=Jho _ _ (λ y d z=>by simp at z)
 have okX:(cxL X A (x::caps) q scope f (.ref c) s H).Ok:=by
  have noA:∀b:Zi,b∉(cxL X A (x::caps) q scope f (.ref c) s H).ex:=λ b z=>absurd (show b∈([]:List Zi) from z) (by simp)
  refine⟨I.ok.mod,S.kind,rfl,rfl,Zr _,λ y y' d a b=>I.ok.inj y y' d (cells' y d a) (cells' y' d b),λ y hy=>?_,λ y d z=>absurd (show Zj=Ze from z) Zp,λ _=>hr.hd,Around.frames_deeper hA,.inr ⟨rfl,rfl⟩,λ b z=>absurd z (noA b),e0.bs,e0.bsz,λ b _ _=>noA b,λ b z=>absurd z (noA b),e0.funs,e0.frf⟩
  have hy':scope.names.lookup y=Za .cell∨scope.names.lookup y=Za .free:=hy
  rcases hy' with z|z
  ·exact absurd rfl (S.nocell _ (ZV z))
  ·have hm:=ZV z
   obtain⟨d,hd⟩:=I.ok.has y (.inl (S.free (y,.free) hm rfl))
   exact Za0.mp (X6 _ _ y d hm hd)
 have I3:Inv (cxL X A (x::caps) q scope f (.ref c) s H) [] (Za w::js.map λ j=>(σ[j]?).join) H { s with heap:=h3,toks:=s.toks+[(x,u)].length }:=by
  refine⟨okX,rfl,I.bare,Un.kept keep,⟨_,hns,λ i y z a b cc=>?_⟩,λ y d z=>?_,I.hok.fresh (Zr _),λ y d z=>I.freeC y d (cells' y d z),λ p hp=>absurd (show p∈([]:PnT) from hp) (by simp),I.hok.kept keep,by show _=(x::caps).length;simp[S.len]⟩
  ·cases i with
   | zero =>
    have a':Za x=Za y:=a
    cases a'
    have b':Za (Za w)=Za (Za z):=b
    cases b'
    exact⟨u,rw',.inl ⟨S.par,by simp⟩⟩
   | succ i =>
    have a':caps[i]?=Za y:=a
    have b':(js.map λ j=>(σ[j]?).join)[i]?=Za (Za z):=b
    rw[Z0] at b'
    cases ej:js[i]? with
    | none=>rw[ej] at b';cases b'
    | some j =>
     rw[ej] at b'
     have b2:(σ[j]?).join=Za z:=Zaj b'
     have hσ:σ[j]?=Za (Za z):=by
      cases es:σ[j]? with
      | none=>rw[es] at b2;cases b2
      | some o=>rw[es] at b2;rw[show o=Za z from b2]
     obtain⟨hx1,hx2⟩:=S.cap i j y ej a'
     have hm:=ZV hx2
     have hk:=S.free (y,.free) hm rfl
     obtain⟨m0,hn,hl⟩:=I.loc
     obtain⟨u',ru',lk⟩:=hl j y z hx1 hσ (.inr (.inl hk))
     rcases lk with⟨e,_⟩|⟨e,d,hd,hcell⟩
     ·have hk':X.env.scope.names.lookup y=Za .cell:=hk
      have e':X.env.scope.names.lookup y=Za .local:=e
      rw[hk'] at e'
      cases e'
     ·obtain⟨d',hd2⟩:=Za0.mp (X6 (cells:=X.env.cells) scope.names [] y d hm hd)
      have:=cells' y d' hd2
      rw[hd] at this
      cases this
      obtain⟨oc,hoc,hdd⟩:=hcell
      exact⟨u',ru',.inr ⟨.inr hx2,d,hd2,oc,keep _ _ hoc,hdd⟩⟩
  ·obtain⟨z',o,ho,hd⟩:=I.cell y d (cells' y d z)
   exact⟨z',o,keep _ _ ho,hd⟩
 have N3:Now ce (cxL X A (x::caps) q scope f (.ref c) s H) [] ι (Za v::js.map λ j=>(σi[j]?).join) h (Za w::js.map λ j=>(σ[j]?).join) H { s with heap:=h3,toks:=s.toks+[(x,u)].length }:=by
  refine⟨I3,N.rel,by simp,λ i z a=>?_⟩
  cases i with
  | zero =>
   have a':Za (Za v)=Za (Za z):=a
   cases a'
   exact⟨w,rfl,qw⟩
  | succ i =>
   have a':(js.map λ j=>(σi[j]?).join)[i]?=Za (Za z):=a
   rw[Z0] at a'
   cases ej:js[i]? with
   | none=>rw[ej] at a';cases a'
   | some j =>
    rw[ej] at a'
    have a2:(σi[j]?).join=Za z:=Zaj a'
    have hσ:σi[j]?=Za (Za z):=by
     cases es:σi[j]? with
     | none=>rw[es] at a2;cases a2
     | some o=>rw[es] at a2;rw[show o=Za z from a2]
    obtain⟨z',ez,qz⟩:=N.st.2 j z hσ
    refine⟨z',?_,qz⟩
    show(js.map λ j=>(σ[j]?).join)[i]?=Za (Za z')
    rw[Z0,ej]
    show Za ((σ[j]?).join)=_
    rw[ez]
    rfl
 refine W.kla_codeExpr (ZP (hb s H [] _ _ H ι _ h (λ u' s'=>Q u' s') (λ _ _=>False) N3 ?_) (λ _ _ z=>z) λ _ _ z=>z.elim)
 cases er:m (Za v::js.map λ j=>(σi[j]?).join) h with
 | ok v' h' =>
  rw[er] at K
  intro u' s' H' ι' N' n' ⟨z,rz,qz⟩
  have J:=N'.inv
  obtain⟨_,_,I',rz',e1,e2⟩:=I.after (Q:=λ z2 H2=>z2=z/\H2=H') ⟨z,H',J.os,J.bare,J.base,J.hok,rz,rfl,rfl⟩
  subst e1
  subst e2
  exact K u' s' _ ι' ⟨I',N'.rel,N.st.mono n'⟩ n' ⟨_,rz',qz⟩
 | exc n h'=>rw[er] at K;exact Zf K
 | stuck=>rw[er] at K;exact Zf K
end
def gtZ:IV->IV->Option Bool
 | .int a,.int b=>Za (decide (a>b))
 | _,_=>Zb
def QO (gt:IV->IV->Option Bool)(mk:IV->IH->Res IV)(i n:Nat):Nat->IV->IV->IH->Res IV
 | 0,b,_,h=>(match h[i]? with
  | some (.lst ys)=>if ys.length=n then .ok b h else .stuck
  | _=>.stuck)
 | r+1,b,kb,h=>(match h[i]? with
  | some (.lst ys)=>if ys.length=n then(match ys[n-(r+1)]? with
    | some y=>(mk y h).nx.bind λ k h'=>(match gt k kb with
     | some Ze=>QO gt mk i n r y k h'
     | some Zj=>QO gt mk i n r b kb h'
     | none=>.stuck)
    | none=>.stuck) else .stuck
  | _=>.stuck)
def Xc (gt:IV->IV->Option Bool)(mk:IV->IH->Res IV)(i:Nat)(d:IV)(h:IH):Res IV:=match h[i]? with
 | some (.lst ys)=>(match ys[0]? with
  | some y=>(mk y h).nx.bind λ k h'=>QO gt mk i ys.length (ys.length-1) y k h'
  | none=>.ok d h)
 | _=>.stuck
theorem FpOk.more {X:Cx}{pj:PnT}{H:Hp}{b:Zi}{p:Zi×Obj}(F:FpOk X pj H b)(ne:p.1≠b):FpOk X (pj++[p]) H b:=by
 refine⟨F.1,F.2.1,F.2.2.1,F.2.2.2.1,F.2.2.2.2.1,λ q hq=>?_⟩
 rcases ZO.mp hq with z|z
 ·exact F.2.2.2.2.2 q (Zab _ z)
 ·rcases ZO.mp z with z|z
  ·exact F.2.2.2.2.2 q (Z4 _ z)
  ·rw[ZI.mp z]
   exact ne
theorem FpOk.at {X:Cx}{pj:PnT}{H H':Hp}{b:Zi}(F:FpOk X pj H b)(n:H' b=Zb):FpOk X pj H' b:=⟨n,F.2⟩
theorem Jqb {xs:List V}{us:List Zd}{i:Nat}{u:Zd}(r:Vals xs us)(e:us[i]?=Za u):∃x,xs[i]?=Za x/\RelV x u:=by
 have hi:=(Zn.mp e).1
 have hl:=r.length
 have hi2:i<xs.length:=by omega
 have hx:xs[i]?=Za xs[i]:=Zc hi2
 obtain⟨u',e',q⟩:=r.get hx
 rw[e] at e'
 cases e'
 exact⟨_,hx,q⟩
section
variable {ce:CeT}{X:Cx}
theorem Now.turned {pj:PnT}{ι:List Zi}{σi:ISt}{h:IH}{σ:L2.St}{H:Hp}{s:Zk}{it:Zi}{h':ZT}{t':Nat}(N:Now ce X pj ι σi h σ H s)(F:FpOk X pj H it)(k:∀b o,b≠it->s.heap.get? b=Za o->h'.get? b=Za o) :
  Now ce X pj ι σi h σ H { s with heap:=h',toks:=t' }:=⟨N.inv.turned k F.1 F.2.1 F.2.2.2.1 F.2.2.2.2.1 F.2.2.2.2.2,N.rel,N.st⟩
theorem Now.keptH {pj:PnT}{ι:List Zi}{σi:ISt}{h:IH}{σ:L2.St}{H:Hp}{s:Zk}{h':ZT}{t':Nat}(N:Now ce X pj ι σi h σ H s)(k:∀b o,s.heap.get? b=Za o->h'.get? b=Za o) :
  Now ce X pj ι σi h σ H { s with heap:=h',toks:=t' }:=⟨N.inv.kept k,N.rel,N.st⟩
def CmpK (ce:CeT)(X:Cx)(A:ZG)(op:CmpOp)(gt:IV->IV->Option Bool):Prop :=
 ∀(pj:PnT)(ι:List Zi)(σi:ISt)(h:IH)(σ:L2.St)(H:Hp)(s:Zk)(k kb:IV)(u ub:Zd)(b:Bool)(Q:QvT)(E:QvT),Now ce X pj ι σi h σ H s->RU X.K ι H k u->RU X.K ι H kb ub->gt k kb=Za b ->
  (∀h' t',(∀a o,s.heap.get? a=Za o->h'.get? a=Za o)->Q (.bool b) { s with heap:=h',toks:=t' })->Zq (Z1 X.prog X.w) A (richCompare op u ub) Q E s
theorem Jxo {A:ZG}:CmpK ce X A .Gt gtZ:=λ pj ι σi h σ H s k kb u ub b Q E N r rb e q=>by
 cases k with
 | int a =>
  cases kb with
  | int c =>
   obtain⟨x,rx,ex⟩:=r
   obtain⟨y,ry,ey⟩:=rb
   have ex':x=.int a:=ex
   have ey':y=.int c:=ey
   subst ex'
   subst ey'
   obtain⟨t,rfl⟩:=rx
   obtain⟨t',rfl⟩:=ry
   have e':Za (decide (a>c))=Za b:=e
   cases e'
   have cmp:=CmpOf.ints_gt (prog:=X.prog) (w:=X.w) (A:=A) (P:=λ i v=>∃t,v=.int (if i=0 then a else c) t) (λ i=>if i=0 then a else c) (λ _ _ q=>q)
   have:=cmp 0 1 (.int a t) (.int c t') s Q E ⟨t,by simp⟩ ⟨t',by simp⟩
   simp only[if_true,show ¬(1:Nat)=0 by decide,if_false] at this
   exact this (q s.heap s.toks λ _ _ e=>e)
  | _=>cases e
 | _=>cases e
def Jxj (ce:CeT)(X:Cx)(A:ZG)(σi:ISt)(σ:L2.St)(pj:PnT)(G:Hp->Prop)(fv:Zd)(mk:IV->IH->Res IV):Prop :=
 ∀(pl:PnT)(s:Zk)(H:Hp)(ι:List Zi)(h:IH)(v:IV)(u:Zd)(Q:QvT),Now ce X (pj++pl) ι σi h σ H s->G H->RU X.K ι H v u->Kont ce X RU (pj++pl) ι σi σ H (mk v h).nx Q (λ _ _=>False) ->
  Zq (Z1 X.prog X.w) A (call fv [u]) Q (λ _ _=>False) s
theorem Jtz {α γ:Type}{pj:PnT}{ι:List Zi}{σi:ISt}{σ:L2.St}{H:Hp}{R:REL α Zd}{R':REL γ Zd}{r:Res α}{g:α->IH->Res γ}{Q:QvT}{E:QvT}{pl:PnT}{Q1:QvT}
  (K:Kont ce X R' pj ι σi σ H (r.nx.bind g) Q E)
  (step:∀x h1 u s1 H1 ι1,Now ce X (pj++pl) ι1 σi h1 σ H1 s1->Nxt ι H ι1 H1->R X.K ι1 H1 x u->Kont ce X R' pj ι1 σi σ H1 (g x h1) Q E->Q1 u s1):Kont ce X R (pj++pl) ι σi σ H r.nx Q1 (λ _ _=>False):=by
 cases r with
 | ok v h'=>exact λ u s' H' ι' N' n' q=>step v h' u s' H' ι' N' n' q (Kont.mono (r:=g v h') K n')
 | exc n h'=>exact Zf K
 | stuck=>exact Zf K
section
variable {A:ZG}{R:Zd8->Zk->Prop}{Q:QvT}{E:QvT}{pj:PnT}{σi:ISt}{σ:L2.St}{G:Hp->Prop}{fq:Zi}{mk:IV->IH->Res IV}{gt:IV->IV->Option Bool}{i n:Nat}{l I C:Zi}{kw:List (Str×Zd)}
theorem Jsi (hh:A.handled=Zb)(cm:CmpK ce X A.in1 .Gt gt)(ko:Jxj ce X A.in1 σi σ pj G (.ref fq) mk)(hG:∀H H',Ext H H'->G H->G H')(hR:∀v s',Q v s'->R (.ok (.ret v)) s')(hIC:I≠C) :
  ∀(r j:Nat)(z:Zk)(H:Hp)(ι:List Zi)(h:IH)(b kb:IV)(vb uk:Zd)(c:Nat),n-j=r->0<j->j<=n->Now ce X pj ι σi h σ H z->G H->ι[i]?=Za l->FpOk X pj H I->FpOk X pj H C->z.heap.IsListIter I l j ->
   z.heap.get? C=Za (ZcF "list" #[vb,uk] c)->RU X.K ι H b vb->RU X.K ι H kb uk->Kont ce X RU pj ι σi σ H (QO gt mk i n r b kb h) Q E ->
   ZbW (Z1 X.prog X.w) A (.builtin "max.loop" ⟨[.ref I,.ref fq,.ref C],kw⟩) R z:=by
 intro r
 induction r with
 | zero =>
  intro j z H ι h b kb vb uk c hr h0 hj N g hi fI fC st gC rb rk K
  obtain rfl:j=n:=by omega
  unfold QO at K
  cases eh:h[i]? with
  | none=>rw[eh] at K;exact Zf K
  | some ob =>
   rw[eh] at K
   cases ob with
   | lst ys =>
    dsimp only at K
    split at K
    ·rename_i hlen
     obtain⟨ws,e1,r3⟩:=N.at eh hi
     obtain⟨its,rv2,pl,_⟩:=N.inv.list (SqL.of e1)
     have ne:l≠I:=λ q=>by have:=fI.1;rw[<- q,e1] at this;cases this
     have sz:its.toArray.size=j:=by
      rw[Zz,<-rv2.length,r3.length,hlen]
     have W:=Zdv (prog:=X.prog) (w:=X.w) (A:=A.in1) hh I l ne its.toArray
     refine ZaA ZaY ?_
     rw[Za6 ZK _]
     show Zq _ A.in1 (ZcS (.ref C)>>=_) _ _ z
     refine Zh (ZbF gC rfl ?_)
     show Zq _ A.in1 (tryCatch (Zcp (.ref I)) _>>=_) _ _ z
     refine Zh (Za7 (W.done z _ _ ⟨by rw[sz];exact st,pl.isList⟩ λ h2 tk keep=>?_))
     have gC2:=keep C _ (λ q=>hIC (ZI.mp q).symm) gC
     have N1:=N.turned (h':=h2) (t':=tk) fI λ b o hb e=>keep b o (λ q=>hb (ZI.mp q)) e
     show Zq _ A.in1 (ZeG C (λ _=>#[])>>=_) _ _ _
     refine Zh ?_
     refine ZbR gC2 rfl (Zh (ZbM (Zw ?_)))
     have N2:=N1.turned (h':=h2.update C (ZcN λ _=>#[])) (t':=tk) fC λ b o hb e=>(Z2 _ _ (ZW hb)).trans e
     exact hR _ _ (K _ _ _ _ N2 .refl rb)
    ·exact Zf K
   | _=>exact Zf K
 | succ r ih =>
  intro j z H ι h b kb vb uk c hr h0 hj N g hi fI fC st gC rb rk K
  unfold QO at K
  cases eh:h[i]? with
  | none=>rw[eh] at K;exact Zf K
  | some ob =>
   rw[eh] at K
   cases ob with
   | lst ys =>
    dsimp only at K
    split at K
    ·rename_i hlen
     obtain⟨ws,e1,r3⟩:=N.at eh hi
     obtain⟨its,rv2,pl,_⟩:=N.inv.list (SqL.of e1)
     have ne:l≠I:=λ q=>by have:=fI.1;rw[<- q,e1] at this;cases this
     have sz:its.toArray.size=n:=by
      rw[Zz,<-rv2.length,r3.length,hlen]
     have ej:n-(r+1)=j:=by omega
     rw[ej] at K
     have W:=Zdv (prog:=X.prog) (w:=X.w) (A:=A.in1) hh I l ne its.toArray
     refine ZaA ZaY ?_
     rw[Za6 ZK _]
     show Zq _ A.in1 (ZcS (.ref C)>>=_) _ _ z
     refine Zh (ZbF gC rfl ?_)
     show Zq _ A.in1 (tryCatch (Zcp (.ref I)) _>>=_) _ _ z
     refine Zh (Za7 (W.item j z _ _ (by rw[sz];omega) ⟨st,pl.isList⟩ λ y h2 tk hP st2 keep=>?_))
     have ey:its[j]?=Za y:=by simpa using hP
     obtain⟨x,ex,rx⟩:=Jqb rv2 ey
     obtain⟨yv,eyv,qy⟩:=r3.get' ex
     rw[eyv] at K
     dsimp only at K
     have gC2:=keep C _ (λ q=>hIC (ZI.mp q).symm) gC
     have N1:=N.turned (h':=h2) (t':=tk) fI λ b o hb e=>keep b o (λ q=>hb (ZI.mp q)) e
     obtain⟨oI,hoI,hoc,hod⟩:=id st2.1
     have N2:=(N1.pinO gC2 fC λ v z=>by cases z).pinO hoI (FpOk.more (p:=(C,ZcF "list" #[vb,uk] c)) fI (ZW hIC)) λ v z=>by rw[hod] at z;cases z
     rw[ZF] at N2
     show Zq _ A.in1 (tryCatch (Zdk [y] (call (.ref fq) [y])) _>>=_) _ _ _
     refine Zh (Za7 (Zat (nof (ko _ _ _ _ _ yv y _ N2 g ⟨x,rx,qy⟩ (Jtz K λ k h3 u s3 H3 ι3 N3 n3 ru K3=>?_)))))
     have pC:=N3.inv.pin (C,ZcF "list" #[vb,uk] c) (Z4 _ (Z4 _ (by simp)))
     have pI:=N3.inv.pin (I,oI) (Z4 _ (Z4 _ (by simp)))
     have N4:=N3.pins
     have hi3:=n3.at hi
     have g3:=hG _ _ n3.ext g
     have fI3:=FpOk.at (H':=H3) fI pI.2.1
     have fC3:=FpOk.at (H':=H3) fC pC.2.1
     have it3:s3.heap.IsListIter I l (j+1):=⟨oI,pI.1,hoc,hod⟩
     have ry3:RU X.K ι3 H3 yv y:=RU.mono n3 ⟨x,rx,qy⟩
     cases eg:gt k kb with
     | none=>rw[eg] at K3;exact Zf K3
     | some bb =>
      show Zq _ A.in1 (tryCatch (Zdk [y,u] (richCompare .Gt u uk>>=_)) _>>=_) _ _ _
      refine Zh (Za7 (Zat (Zh (cm _ _ _ _ _ _ _ k kb u uk bb _ _ N4 ru (rk.mono n3) eg λ h5 t5 k5=>?_))))
      refine Zh (Zat (Zbl ?_))
      refine Zh (ZbM (Zw ?_))
      have N5:=N4.keptH (h':=h5) (t':=t5) k5
      have gC5:=k5 _ _ pC.1
      obtain⟨oI5,hoI5,hoc5,hod5⟩:=id it3
      have it5:h5.IsListIter I l (j+1):=⟨oI5,k5 _ _ hoI5,hoc5,hod5⟩
      rw[eg] at K3
      cases bb with
      | true =>
       simp only[if_true]
       refine Zh ?_
       refine ZbR gC5 rfl (Zh (ZbM ?_))
       rw[Vx]
       have N6:=N5.turned (h':=h5.update C (ZcN λ _=>#[y,u])) (t':=t5) fC3 λ b o hb e=>(Z2 _ _ (ZW hb)).trans e
       obtain⟨c2,hc2⟩:∃c2,(h5.update C (ZcN λ _=>#[y,u])).get? C=Za (ZcF "list" #[y,u] c2):=⟨_,get?_update_seq gC5 λ _=>#[y,u]⟩
       refine Zw ⟨Zbu ZK _,ih (j+1) _ H3 ι3 h3 yv k y u c2 (by omega) (by omega) (by omega) N6 g3 hi3 fI3 fC3 ?_ hc2 ry3 ru K3⟩
       exact⟨oI5,(Z2 _ _ (ZW hIC)).trans (k5 _ _ hoI5),hoc5,hod5⟩
      | false =>
       simp only[Zag,if_false]
       refine Zh (ZbM ?_)
       rw[Vx]
       exact Zw ⟨Zbu ZK _,ih (j+1) _ H3 ι3 h3 b kb vb uk c (by omega) (by omega) (by omega) N5 g3 hi3 fI3 fC3 it5 gC5 (rb.mono n3) (rk.mono n3) K3⟩
    ·exact Zf K
   | _=>exact Zf K
theorem Jno (a v d:Zd):ZeH "max" ⟨[a],[(Zap "key",v),(Zap "default",d)]⟩:=by unfold ZeH;kernel_rfl
theorem Jsh {z:Zk}{H:Hp}{ι:List Zi}{h:IH}{dv:IV}{d:Zd}(hh:A.handled=Zb)(cm:CmpK ce X A.in1 .Gt gt)(ko:Jxj ce X A.in1 σi σ pj G (.ref fq) mk)(hG:∀H H',Ext H H'->G H->G H')(N:Now ce X pj ι σi h σ H z)(g:G H)(hi:ι[i]?=Za l)(rd:RU X.K ι H dv d)
  (K:Kont ce X RU pj ι σi σ H (Xc gt mk i dv h) Q E):Zq (Z1 X.prog X.w) A (call (.builtin "max") [.ref l] [(Zap "key",.ref fq),(Zap "default",d)]) Q E z:=by
 unfold Xc at K
 cases eh:h[i]? with
 | none=>rw[eh] at K;exact Zf K
 | some ob =>
  rw[eh] at K
  cases ob with
  | lst ys =>
   dsimp only at K
   obtain⟨ws,e1,r3⟩:=N.at eh hi
   obtain⟨its,rv2,pl,_⟩:=N.inv.list (SqL.of e1)
   have hl:=pl.isList
   obtain⟨ol,hol,_⟩:=id hl
   have lt:l<z.heap.objs.size:=Zx hol
   have sz:its.toArray.size=ys.length:=by rw[Zz,<-rv2.length,r3.length]
   refine kmk_tree PySem.F.kind_max PySem.F.plain_max PySem.F.entry_max (Jno _ _ _) ?_
   show Zq _ A.in1 (Zbr "max" ["key","default"] 0 ⟨[],[(Zap "key",.ref fq),(Zap "default",d)]⟩>>=_) _ _ z
   refine Zh (wpAny_of_eq (show Zbr "max" ["key","default"] 0 ⟨[],[(Zap "key",.ref fq),(Zap "default",d)]⟩=pure [Za (.ref fq),Za d] from rfl) ?_)
   refine Zh (Zw ?_)
   refine Zh (ZaV hl ?_)
   refine Zh (wpAny_newList ?_ (Zal _))
   rw[Vx]
   have ne:l≠z.heap.objs.size:=ZD lt
   have W:=Zdv (prog:=X.prog) (w:=X.w) (A:=A.in1) hh z.heap.objs.size l ne its.toArray
   have hS:(z.heap.push { cls:=.type "list_iterator",data:=.fields #[.ref l,.int 0 0] }).objs.size=z.heap.objs.size+1:=size_push' ..
   obtain⟨C,hC⟩:∃C,C=(z.heap.push { cls:=.type "list_iterator",data:=.fields #[.ref l,.int 0 0] }).objs.size:=⟨_,rfl⟩
   have hIC:z.heap.objs.size≠C:=by rw[hC,hS];exact ZD (ZaR _)
   have old:∀b o,z.heap.get? b=Za o->((z.heap.push { cls:=.type "list_iterator",data:=.fields #[.ref l,.int 0 0] }).push (ZcF "list" #[] 0)).get? b=Za o:=λ b o e=>Zg _ (Zg _ e)
   have gI:((z.heap.push { cls:=.type "list_iterator",data:=.fields #[.ref l,.int 0 0] }).push (ZcF "list" #[] 0)).get? z.heap.objs.size=Za { cls:=.type "list_iterator",data:=.fields #[.ref l,.int 0 0] }:=Zg _ (Zy _ rfl)
   have gC:((z.heap.push { cls:=.type "list_iterator",data:=.fields #[.ref l,.int 0 0] }).push (ZcF "list" #[] 0)).get? C=Za (ZcF "list" #[] 0):=by rw[hC];exact Zy _ rfl
   rw[<- hC]
   have fI:FpOk X pj H z.heap.objs.size:=N.inv.fpOk (Zr _) (N.inv.hok.fresh (Zr _))
   have fC:FpOk X pj H C:=N.inv.fpOk (by rw[hC,hS];exact Zao _) (N.inv.hok.fresh (by rw[hC,hS];exact Zao _))
   have N0:=N.keptH (t':=z.toks) old
   refine Zw ⟨Zbu ZK _,ZaA ZaY ?_⟩
   rw[Za6 ZK _]
   show Zq _ A.in1 (ZcS (.ref _)>>=_) _ _ _
   refine Zh (ZbF gC rfl ?_)
   show Zq _ A.in1 (tryCatch (Zcp (.ref z.heap.objs.size)) _>>=_) _ _ _
   cases e0:ys[0]? with
   | none =>
    have h0:ys.length=0:=by
     have:=Zcl.mp e0
     omega
    rw[e0] at K
    refine Zh (Za7 (W.done _ _ _ (by rw[sz,h0];exact⟨⟨_,gI,rfl,rfl⟩,(hl.push _).push _⟩) λ h2 tk keep=>?_))
    have N1:=N0.turned (h':=h2) (t':=tk) fI λ b o hb e=>keep b o (λ q=>hb (ZI.mp q)) e
    show Zq _ A.in1 (rule _>>=_) _ _ _
    refine Zh (wpAny_rule (Zw ?_))
    exact K _ _ _ _ N1 .refl rd
   | some yv =>
    have h0:0<ys.length:=(Zn.mp e0).1
    rw[e0] at K
    dsimp only at K
    refine Zh (Za7 (W.item 0 _ _ _ (by rw[sz];exact h0) ⟨⟨_,gI,rfl,rfl⟩,(hl.push _).push _⟩ λ y h2 tk hP st2 keep=>?_))
    have ey:its[0]?=Za y:=by simpa using hP
    obtain⟨x,ex,rx⟩:=Jqb rv2 ey
    obtain⟨yv',eyv,qy⟩:=r3.get' ex
    rw[e0] at eyv
    cases eyv
    have gC2:=keep C _ (λ q=>hIC (ZI.mp q).symm) gC
    have N1:=N0.turned (h':=h2) (t':=tk) fI λ b o hb e=>keep b o (λ q=>hb (ZI.mp q)) e
    obtain⟨oI,hoI,hoc,hod⟩:=id st2.1
    have N2:=(N1.pinO gC2 fC λ v z=>by cases z).pinO hoI (FpOk.more (p:=(C,ZcF "list" #[] 0)) fI (ZW hIC)) λ v z=>by rw[hod] at z;cases z
    rw[ZF] at N2
    show Zq _ A.in1 (tryCatch (Zdk [y] (call (.ref fq) [y])) _>>=_) _ _ _
    refine Zh (Za7 (Zat (nof (ko _ _ _ _ _ yv y _ N2 g ⟨x,rx,qy⟩ (Jtz K λ k h3 u s3 H3 ι3 N3 n3 ru K3=>?_)))))
    have pC:=N3.inv.pin (C,ZcF "list" #[] 0) (Z4 _ (Z4 _ (by simp)))
    have pI:=N3.inv.pin (z.heap.objs.size,oI) (Z4 _ (Z4 _ (by simp)))
    have N4:=N3.pins
    have fI3:=FpOk.at (H':=H3) fI pI.2.1
    have fC3:=FpOk.at (H':=H3) fC pC.2.1
    have ry3:RU X.K ι3 H3 yv y:=RU.mono n3 ⟨x,rx,qy⟩
    show Zq _ A.in1 (ZeG C (λ _=>#[y,u])>>=_) _ _ _
    refine Zh ?_
    refine ZbR pC.1 rfl ?_
    rw[Vx]
    have N6:=N4.turned (h':=s3.heap.update C (ZcN λ _=>#[y,u])) (t':=s3.toks) fC3 λ b o hb e=>(Z2 _ _ (ZW hb)).trans e
    obtain⟨c2,hc2⟩:∃c2,(s3.heap.update C (ZcN λ _=>#[y,u])).get? C=Za (ZcF "list" #[y,u] c2):=⟨_,get?_update_seq pC.1 λ _=>#[y,u]⟩
    refine Zw ⟨Zbu ZK _,Jsi hh cm ko hG (λ v s' q=>q) hIC (ys.length-1) 1 _ H3 ι3 h3 yv k y u c2 rfl (by omega) (by omega) N6 (hG _ _ n3.ext g) (n3.at hi) fI3 fC3 ?_ hc2 ry3 ru K3⟩
    exact⟨oI,(Z2 _ _ (ZW hIC)).trans pI.1,hoc,hod⟩
  | _=>exact Zf K
end
theorem Kont.more {α β:Type}{R:REL α β}{pj pl:PnT}{ι:List Zi}{σi:ISt}{σ:L2.St}{H:Hp}{r:Res α}{Q:β->Zk->Prop}{E:QvT}(K:Kont ce X R pj ι σi σ H r Q E):Kont ce X R (pj++pl) ι σi σ H r Q E:=by
 cases r with
 | ok v h'=>exact λ u s' H' ι' N n q=>K u s' H' ι' N.pins n q
 | exc m h'=>exact λ pl' a s' H' ι' N n q=>K (pl++pl') a s' H' ι' (by rw[<- ZF];exact N) n q
 | stuck=>exact K
def XF (gt:IV->IV->Option Bool)(q:Str)(j:Nat)(js:List Nat)(aa:A1)(m md:E1):E1:=λ σ h=>(aa σ h).bind λ xs h1=>match h1[j]? with
 | some (.tab q')=>if q'=q then(md σ h1).bind λ d h2=>(match xs with
  | [.ref i]=>Xc gt (λ v h'=>m (Za v::js.map λ j=>(σ[j]?).join) h') i d h2
  | _=>.stuck) else .stuck
 | _=>.stuck
theorem Jr5 {params:ZcL}{x:Str}{env:Env}(hx:Xe params=Za x):defaultsOf params env=([],[]):=by
 unfold Xe at hx
 split at hx
 ·rfl
 ·cases hx
theorem Jya {k:Nat}{q x:Str}{caps:List Str}{js:List Nat}{j:Nat}{a body de:Expr}{aa:A1}{m md:E1}{params:ZcL}{scope:Zba}{p lp pos kp kp2:Pos}(hg:Gl X "max")(hm:X.mg "max"=Zb)(ha:PAi ce X [a] aa)(hd:PEi ce X de md)(hs:Z9 [a] X.env=[(Zj,ZaJ a X.env)])
  (hr:Room (k+2) X.A)(hcd:W.codeIn X.K X.env.code q=Ze)(hq:X.env.qual=q++".<locals>.")(B:Q7 X.mg X.base)(hx:Xe params=Za x)(S:LamSc X.N X.env.scope.names x caps js scope)
  (hb:∀f cd s' H',PEi ce (cxL X X.A.in1 (x::caps) q scope f cd s' H') body m) :
  PEi ce X (.Call (.Name "max" p) [a] [⟨Za "key",.Lambda params body scope lp,kp⟩,⟨Za "default",de,kp2⟩] pos) (XF gtZ q j js aa m md):=λ pj s σ H ι σi h Q E N K=>by
 have hcl:ZdU scope X.env=pure (clOf X.env.cells scope.names []):=Jd3 λ y hm hk=>N.inv.ok.has y.1 (.inl (S.free y hm hk))
 refine ZQ (Qg N.inv hg hm rfl ?_)
 refine callWith_kw ?_ (by rw[hs];rfl) (by rw[hs];rfl) rfl rfl
 refine(ha pos).run N K λ xs h1 us s1 H1 ι1 N1 n1 r1 K1=>?_
 cases ej:h1[j]? with
 | none=>rw[ej] at K1;exact Zf K1
 | some ob =>
  rw[ej] at K1
  cases ob with
  | tab q' =>
   dsimp only at K1
   split at K1
   ·rename_i eq
    subst eq
    refine Zcn (Zh (Jr6 N1 ej hcd hq (Jr5 hx) hcl B λ f c pm ctv s2 H2 N2 n2 LC=>Zh (Zb9 (Zw ?_))))
    refine Zcn (Zh (PX.run hd N2 (Kont.more (Kont.mono K1 n2)) λ d h3 du s3 H3 ι3 N3 n3 r3 K3=>Zh (Zb9 (Zw (ZdE ?_)))))
    obtain⟨vs,rv,qs⟩:=r1.mono (n2.trans n3)
    match xs,K3 with
    | [.ref i],K3 =>
     obtain⟨w,rfl,ad,rfl,hav⟩:=qs.one_of
     obtain⟨u,rfl,ru⟩:=Qq rv
     cases ru
     refine Jsh (G:=λ H=>QL H q' (.ref c)) (mk:=λ v h'=>m (Za v::js.map λ j=>(σi[j]?).join) h') hr.hd Jxo ?_ (λ H H' e g=>g.mono e.frzs) N3 (LC.mono n3.ext.frzs) hav r3 ?_
     ·intro pl s4 H4 ι4 h4 v u Q4 N4 g4 ru4 K4
      have pf:=N4.inv.pin (f,lamO q' params body scope (clOf X.env.cells scope.names []) pm ctv c) (Z4 _ (Zab _ (Z4 _ (ZI.mpr rfl))))
      exact Jvp (A:=X.A.in1) N.inv.ok.frames hr.in1 N4 pf.1 g4 hx S (hb f (.ref c)) ru4 K4
     ·exact K3
    | [],K3=>exact Zf K3
    | [.non],K3=>exact Zf K3
    | [.bl _],K3=>exact Zf K3
    | [.int _],K3=>exact Zf K3
    | [.str _],K3=>exact Zf K3
    | [.tup _],K3=>exact Zf K3
    | [.rol _],K3=>exact Zf K3
    | x::_::_,K3=>cases x<;>exact Zf K3
   ·exact Zf K1
  | _=>exact Zf K1
end
def bmV:List Zd:=[.type "ValueError",.type "Exception",.type "BaseException",.type "object"]
def XCls (K:W.Frag)(C:Zi):Prop:=W.excIn K C bmV "ValueError.__new__"=Ze
theorem XCls.obj {K:W.Frag}{C:Zi}{h:ZT}(x:XCls K C)(I:K.In h):∃bm N nm q bs hdct sn sub ab col dd k0 k1 k2 k3 k5 mN,h.get? C=Za (Zd4 nm q C N bs bm hdct sn sub ab col dd k0 k1 k2 k3 k5 "ValueError.__new__")/\h.Ns N mN/\mN "__init__"=Zb/\OwnTail h bmV bm:=by
 unfold XCls W.excIn at x
 split at x
 case h_2=>cases x
 rename_i dd cd sl ho
 split at x
 case h_2=>cases x
 rename_i D bm k0 k1 k2 k3 n k5 em es
 simp only[Zl,beq_iff_eq,ZaH] at x
 obtain⟨⟨⟨⟨⟨e1,e2⟩,e3⟩,e4⟩,e5⟩,e6⟩:=x
 subst e1 e2
 obtain⟨nm,bs,mro,N,qn,hd,sn,sub,ab,col,del⟩:=cd
 have em:mro=.ref D::bm:=em
 have e3:del=Zj:=e3
 subst em e3
 have es:sl=#[k0,k1,k2,k3,Za (.builtin "ValueError.__new__"),k5]:=by
  rw[<- ZcY (xs:=sl),es]
 subst es
 exact⟨bm,N,nm,qn,bs,hd,sn,sub,ab,col,dd,k0,k1,k2,k3,k5,_,I _ _ ho,.of_isNs (W.isNs_of_in I e5),W.nsMap_none_of_in I e5 e6,W.tail_of_in I e4⟩
def JO (c:Str)(a:A1):S1:=λ σ h=>rS σ (a σ h) λ vs h1=>if vs.length<=sizeLine then .exc h1.length σ (h1++[.exc c []]) else .stuck
section
variable {ce:CeT}{X:Cx}{C:Zi}{x c:Str}{np cpos pos:Pos}{e:Expr}{es:List Expr}{ma:A1}
theorem Jwf (hc:X.calm=Ze)(hg:Gl X x)(hm:X.mg x=Za (.ref C))(hC:W.nsIn X.K Zm c=Za (Za (.ref C)))(xc:XCls X.K C)(ha:PAi ce X (e::es) ma)(hdb:(x==("__debug__":Str))=Zj:=by decide)
  (he:Z9 (e::es) X.env=(Zj,ZaJ e X.env)::Z9 es X.env:=by rfl)(hpl:(ZaU cpos (Z9 es X.env)).any (·.1)=Zj:=by rfl):PS1 ce X (.Raise (Za (.Call (.Name x np) (e::es) [] cpos)) Zb pos) (JO c ma):=by
 intro pj s σ H ι σi h Q E N K
 obtain⟨bm,Na,nm,q,bs,hdct,sn,sub,ab,col,dd,k0,k1,k2,k3,k5,mN,hCo,hN,hni,T⟩:=xc.obj N.inv.mod.kin
 have hpa:(ZaU cpos (Z9 (e::es) X.env)).any (·.1)=Zj:=by
  rw[he]
  show(Zj||(ZaU cpos (Z9 es X.env)).any (·.1))=Zj
  rw[hpl]
  rfl
 refine wpAny_Raise_call_subU (mN:=mN) (nm:=nm) (q:=q) (N:=Na) (bs:=bs) (hdct:=hdct) (sn:=sn) (sub:=sub) (ab:=ab) (col:=col) (dd:=dd) (k0:=k0) (k1:=k1) (k2:=k2) (k3:=k3) (k5:=k5) F.excBase_ValueError (by decide) F.excBase_ValueError (T.hasType (by decide)) (N.inv.ok.hd hc) hpa hni (QP N.inv hg hm ⟨rfl,?_⟩ hdb)
 have hs:=ha cpos
 rw[he] at hs ⊢
 refine Calls.evalArgs_plain (krun hs N K λ vs h1 us s1 H1 ι1 N1 n1 r1 K1=>?_)
 change JA ce X pj ι1 H1 (if vs.length<=sizeLine then _ else _) Q E at K1
 split at K1
 case isFalse=>exact K1.elim
 rename_i hz
 have kb:=N1.inv.bk
 have hl:us.length=vs.length:=by
  obtain⟨ws,rv,qv⟩:=r1
  rw[<- rv.length,qv.length]
 refine⟨rfl,by show us.length<=_;omega,kb _ _ hCo,hN.keeps kb,T.keeps kb,λ h' a M=>?_⟩
 obtain⟨t,hat,_,_⟩:=M.there
 have hf:H1 a=Zb:=by
  cases z:H1 a with
  | none=>rfl
  | some u =>
   obtain⟨o,z'⟩:=Jpf (N1.inv.hok a u z)
   rw[M.new] at z'
   cases z'
 obtain⟨R2,n2⟩:=N1.rel.alloc (o:=ExF a C .none Zb) (io:=.exc c []) hf ⟨C,.none,Zb,.inl ⟨rfl,rfl⟩,hC,Jy,.inl rfl⟩
 have kk:∀b u,s1.heap.get? b=Za u->h'.get? b=Za u:=λ b u q=>M.keeps b u q
 have up:∀{b:Zi}{u:HO},H1 b=Za u->upd H1 a (ExF a C .none Zb) b=Za u:=λ {b u} q=>by
  rw[Jo (λ z=>by subst z;rw[hf] at q;cases q)]
  exact q
 have un:Un X.fs [] H1 (upd H1 a (ExF a C .none Zb)) s1.heap h' :=
  ⟨λ b o q _ _ _=>kk b o q,λ b o q _ _ _=>⟨o.slots,kk b o q⟩,λ b o q n _=>by rw[Jo (λ z=>by subst z;rw[M.new] at q;cases q)];exact n,λ b o q _=>⟨o,kk b o q⟩,λ b xs q=>up q,λ b o u q=>up q,λ b ps q=>⟨#[],by rw[up q];simp⟩⟩
 have ok:HOk X.prog X.w (upd H1 a (ExF a C .none Zb)) h':=λ b u q=>by
  by_cases z:b=a
  ·subst z
   rw[Jy] at q
   cases q
   exact ExF.ok hat rfl rfl rfl rfl rfl
  ·rw[Jo z] at q
   exact(N1.inv.hok b u q).stay (λ d v _ p=>kk d v p) (λ d p=>up p) λ d xs p=>up p
 have I2:Inv X pj σ (upd H1 a (ExF a C .none Zb)) { s1 with heap:=h' }:=N1.inv.un (t':=s1.toks) un ok
 refine K1 [] a _ σ _ _ ⟨by simpa using I2,R2,N1.st.mono n2⟩ n2 ?_ _ (.inl rfl)
 rw[<- N1.rel.len,Zu (Zr _)]
 simp
end
abbrev Jj (X:Cx)(a:Zi):Cx:={ X with A:=X.A.mark (Za (.ref a)),calm:=Zj }
section
variable {ce:CeT}{X:Cx}{a C:Zi}{pj:PnT}{σ:L2.St}{H:Hp}{s:Zk}{ι:List Zi}{σi:ISt}{h:IH}{n:Nat}{c:Str}{fs:List (Str×IV)}{tv:Zd}
theorem XM (I:Inv X pj σ H s)(a:Zi):Inv (Jj X a) pj σ H s :=
 ⟨⟨I.ok.mod,I.ok.kind,I.ok.glob,I.ok.blt,I.ok.above,I.ok.inj,I.ok.has,I.ok.cab,nofun,I.ok.frames,I.ok.stk,I.ok.exf,I.ok.bs,I.ok.bsz,I.ok.noex,I.ok.exfs,I.ok.funs,I.ok.frf⟩,I.os,I.bare,I.base,I.loc,I.cell,I.free,I.freeC,I.pin,I.hok,I.len⟩
theorem Jeu (ok:X.Ok)(I:Inv (Jj X a) pj σ H s):Inv X pj σ H s :=
 ⟨ok,I.os,I.bare,I.base,I.loc,I.cell,I.free,I.freeC,I.pin,I.hok,I.len⟩
theorem _root_.L2.Inv.fewer {pj':PnT}(I:Inv X pj σ H s)(k:∀p∈X.pn++pj',p∈X.pn++pj):Inv X pj' σ H s :=
 ⟨I.ok,I.os,I.bare,I.base,I.loc,I.cell,I.free,I.freeC,λ p hp=>I.pin p (k p hp),I.hok,I.len⟩
theorem Jsn {d:Option Zi}{T:Zi}{oT:Obj}{h':ZT}(N:Now ce X pj ι σi h σ H s)(hj:h[n]?=Za (.exc c fs))(hi:ι[n]?=Za a)(hC:W.nsIn X.K Zm c=Za (Za (.ref C)))(ha:H a=Za (ExF a C tv d))(p:Past X H s.heap a C d T oT h') :
  Now ce X pj ι σi h σ (upd (upd H T (.frz oT (.own 0))) a (ExF a C (.ref T) d)) { s with heap:=h' }/\Nxt ι H ι (upd (upd H T (.frz oT (.own 0))) a (ExF a C (.ref T) d)):=by
 obtain⟨C',tv',d',fe,_,ha',_⟩:=QF N.rel hj hi
 rw[Jrj N.inv.hok ha' ha] at fe
 obtain⟨R4,n4⟩:=N.rel.grow (o:=.frz oT (.own 0)) p.new
 have ha4:upd H T (.frz oT (.own 0)) a=Za (ExF a C tv d):=by rw[Jo (ZW p.ne)];exact ha
 obtain⟨R5,n5⟩:=R4.write hi ha4 (by rw[ha4];trivial) (o:=ExF a C (.ref T) d) (io:=.exc c fs) ⟨C,.ref T,d,fe.mono p.un.frzs,hC,Jy,.inr ⟨T,oT,_,rfl,by rw[Jo p.ne,Jy],p.fld.choose_spec⟩⟩
 rw[Jia hj] at R5
 have I:=N.inv.call (g':=s.gens) (t':=s.toks) (d':=s.drawn) (ch:=[]) p.un p.hok N.inv.bare λ b z=>absurd z (by simp)
 exact⟨⟨I,R5,N.st.mono (n4.trans n5)⟩,n4.trans n5⟩
theorem Jf7 {d:Option Zi}{M:Ze4}{A:ZG}{Q:Unit->Zk->Prop}{E:QvT}(ok:HOk X.prog X.w H s.heap)(ha:H a=Za (ExF a C tv d))(ht:TvOk H tv)(k:∀h',(∀b o,s.heap.get? b=Za o->h'.get? b=Za o)->Q () { s with heap:=h' }) :
  Zq M A (ZcQ (.ref a) Zb) Q E s:=by
 obtain⟨oe,vs,e1,e2,e3,e4,_⟩:=ExF.get ok ha
 unfold ZcQ
 refine Zh (Zbs e1 e3 e4 ?_)
 rcases ht with rfl|⟨T,oT,ts,rfl,q1,q2,q3⟩
 ·rw[if_neg (by decide)]
  exact Zw (k s.heap λ _ _ q=>q)
 ·have gT:s.heap.get? T=Za oT:=(ok T _ q1).1
  rw[if_pos (by simp)]
  refine ZbE gT q2 (Za5.mp q3).1 (k _ λ b o q=>?_)
  by_cases z:b=T
  ·subst z
   rw[gT] at q
   cases q
   exact Jkn gT q2 q3
  ·rw[Z2 _ _ (ZW z)]
   exact q
theorem Jrp {M:Ze4}{A:ZG}{E:QvT}{Q:Unit->Zk->Prop}{i:Nat}{x:Str}{pos:Pos}(I:Inv X pj σ H s)(hN:X.N.Nodup)(hi:X.N[i]?=Za x)(hx:X.env.kindOf x=Za .local)(k:∀s',Inv X pj (σ.set i Zb) H s'->Q () s') :
  Zq M A (do bindName X.env x .none;unbindBehindTheSuite X.env x pos) Q E s:=by
 obtain⟨m,hn,hl⟩:=id I.loc
 have hcls:(X.env.scope.kind==.class||(X.env.scope.kind==.module&&X.env.locals != X.env.globals))=Zj:=by rw[I.ok.kind];rfl
 have cne:=I.cne
 refine wpAny_nameGoes_keeps hx hn hcls λ h' v hn' hs=>?_
 have up:∀{b:Zi}{o:Obj},X.s₀.heap.get? b=Za o->b≠X.env.locals:=λ e=>ZD (ZJ (Zx e) I.ok.above)
 refine k _ ⟨I.ok,I.os,I.bare,⟨λ b o e nn hb hx=>?_,λ b o e nn hb hx=>?_,I.base.free,λ b o e hx=>?_,I.base.tups,I.base.frzs,I.base.tbls⟩,⟨_,hn',λ j y w e1 e2 e3=>?_⟩,λ y cc e=>?_,I.free,I.freeC,λ p hp=>?_,λ b ob e=>?_,by rw[Zdc];exact I.len⟩
 ·exact(hs.2 b (up e)).trans (I.base.keep b o e nn hb hx)
 ·obtain⟨sl,e1⟩:=I.base.slot b o e nn hb hx
  exact⟨sl,(hs.2 b (up e)).trans e1⟩
 ·obtain⟨o',e1⟩:=I.base.there b o e hx
  exact⟨o',(hs.2 b (up e)).trans e1⟩
 ·by_cases z:j=i
  ·subst z
   have hj:j<σ.length:=by rw[I.len];exact(Zn.mp hi).1
   rw[ZX hj] at e2
   cases e2
  ·rw[ZZ (ZW z)] at e2
   obtain⟨u,r,q⟩:=hl j y w e1 e2 e3
   refine⟨u,r,?_⟩
   rcases q with⟨q1,q2⟩|⟨q1,cc,q2,q3⟩
   ·refine .inl ⟨q1,?_⟩
    show(if y=x then v else m y)=Za u
    rw[if_neg (show ¬y=x from λ z2=>z (Jh0 hN e1 (by rw[z2];exact hi)))]
    exact q2
   ·exact .inr ⟨q1,cc,q2,q3.sameBut hs (cne y cc q2)⟩
 ·obtain⟨w',z⟩:=I.cell y cc e
  exact⟨w',z.sameBut hs (cne y cc e)⟩
 ·obtain⟨e,nn,ne,nf,d⟩:=I.pin p hp
  exact⟨(hs.2 p.1 ne).trans e,nn,ne,nf,d⟩
 ·have nb:∀{d:Zi}{u:HO},H d=Za u->d≠X.env.locals:=λ q z=>by rw[z,I.free] at q;cases q
  refine(I.hok b ob e).stay (λ d w' hc q=>(hs.2 d ?_).trans q) (λ _ q=>q) λ _ _ q=>q
  rcases hc with rfl|hc
  ·exact nb e
  ·exact nb hc
end
theorem RSt.unset {K:W.Frag}{ι:List Zi}{H:Hp}{σi:ISt}{σ:L2.St}(r:RSt K ι H σi σ)(i:Nat):RSt K ι H (σi.set i Zb) (σ.set i Zb):=by
 refine⟨by simp[r.len],λ j w e=>?_⟩
 by_cases z:j=i
 ·subst z
  have hl:j<σi.length:=by
   have:=(Zn.mp e).1
   simpa using this
  rw[ZX hl] at e
  cases e
 ·rw[ZZ (ZW z)] at e
  obtain⟨u,e1,q1⟩:=r.at_ j w e
  exact⟨u,by rw[ZZ (ZW z)];exact e1,q1⟩
abbrev HdI:=(Str->Option Bool)×Option Nat×S1
def VE (sl:Option Nat)(x:Option IV)(σ:ISt):ISt:=match sl with
 | some i=>σ.set i x
 | none=>σ
def SRes.drop (sl:Option Nat)(r:SRes):SRes:=match r with
 | .next σ h=>.next (VE sl Zb σ) h
 | .brk σ h=>.brk (VE sl Zb σ) h
 | .cont σ h=>.cont (VE sl Zb σ) h
 | .ret v h=>.ret v h
 | _=>.stuck
def Vs:List HdI->Str->Nat->S1
 | [],_,_=>λ _ _=>.stuck
 | q::r,c,n=>λ σ h=>match q.1 c with
  | some Ze=>(q.2.2 (VE q.2.1 (Za (.ref n)) σ) h).drop q.2.1
  | some Zj=>Vs r c n σ h
  | none=>.stuck
def sTry (b:S1)(hs:List HdI):S1:=λ σ h=>match b σ h with
 | .exc n σ1 h1=>(match h1[n]? with
  | some (.exc c _)=>Vs hs c n σ1 h1
  | _=>.stuck)
 | r=>r
def PSH (ce:CeT)(X:Cx)(a:Zi)(sl:Option Nat)(suite:List Zbv)(m:S1):Prop :=
 ∀(pj:PnT)(s:Zk)(σ:L2.St)(H:Hp)(ι:List Zi)(σi:ISt)(h:IH)(Q:Flow->Zk->Prop)(E:QvT)(n:Nat)(c:Str)(fs:List (Str×IV)),X.Ok->Now ce (Jj X a) pj ι σi h σ H s->h[n]?=Za (.exc c fs)->ι[n]?=Za a->(∀i,sl=Za i->i<σi.length->σi[i]?=Za (Za (.ref n))) ->
  JA ce (Jj X a) pj ι H (m σi h) Q E->Zq (Z1 X.prog X.w) (Jj X a).A (execs suite X.env) Q E s
theorem PS2.h {ce:CeT}{X:Cx}{a:Zi}{sl:Option Nat}{suite:List Zbv}{m:S1}(p:PS2 ce (Jj X a) suite m):PSH ce X a sl suite m:=λ pj s σ H ι σi h Q E _ _ _ _ N _ _ _ K=>p pj s σ H ι σi h Q E N K
structure HdOk (ce:CeT)(X:Cx)(t:Expr)(nm:Option Str)(suite:List Zbv)(f:Str->Option Bool)(sl:Option Nat)(m:S1):Prop where
 test:∀(a:Zi)(c:Str)(C:Zi)(b:Bool)(pj:PnT)(σ:L2.St)(H:Hp)(s:Zk)(Q:Bool->Zk->Prop)(E:QvT),f c=Za b->W.nsIn X.K Zm c=Za (Za (.ref C))->Inv (Jj X a) pj σ H s->(∃oe,s.heap.get? a=Za oe/\oe.cls=.ref C)->Q b s ->
  Zq (Z1 X.prog X.w) (Jj X a).A (ZaJ t X.env) (λ v s₁=>Zq (Z1 X.prog X.w) (Jj X a).A (excMatches (.ref a) v) Q E s₁) E s
 nm:(nm=Zb/\sl=Zb)∨∃n i,nm=Za n/\sl=Za i/\X.N[i]?=Za n/\X.env.kindOf n=Za .local
 run:∀a,PSH ce X a sl suite m
inductive HdsOk (ce:CeT)(X:Cx):List Zbg->List HdI->Prop
 | nil:HdsOk ce X [] []
 | cons {t:Expr}{nm:Option Str}{b₀:Zbv}{suite:List Zbv}{pos:Pos}{f:Str->Option Bool}{sl:Option Nat}{m:S1}{hs:List Zbg}{ms:List HdI}:HdOk ce X t nm (b₀::suite) f sl m->HdsOk ce X hs ms->HdsOk ce X (.ExceptHandler (Za t) nm (b₀::suite) pos::hs) ((f,sl,m)::ms)
section
variable {ce:CeT}{X:Cx}
theorem Jop (hN:X.N.Nodup){hs:List Zbg}{ms:List HdI}(O:HdsOk ce X hs ms){a:Zi}{pj:PnT}{σ:L2.St}{H:Hp}{s:Zk}{ι:List Zi}{σi:ISt}{h:IH}{n:Nat}{c:Str}{fs:List (Str×IV)}{Q:Flow->Zk->Prop}{E:QvT}
  (N:Now ce X pj ι σi h σ H s)(hj:h[n]?=Za (.exc c fs))(hi:ι[n]?=Za a)(K:JA ce X pj ι H (Vs ms c n σi h) Q E):Zq (Z1 X.prog X.w) X.A (handleBy (.ref a) X.env hs) Q E s:=by
 obtain⟨C,tv,d,fe,hC,ha,ht⟩:=QF N.rel hj hi
 obtain⟨oe,vs,e1,e2,_⟩:=ExF.get N.inv.hok ha
 induction O with
 | nil=>exact Zf K
 | @cons t nm b₀ suite pos f sl m hs ms o O ih =>
  unfold Vs at K
  dsimp only at K
  cases hb:f c with
  | none=>rw[hb] at K;exact Zf K
  | some b =>
   rw[hb] at K
   refine wpAny_handleBy_cons (codeAny_handlers_test (o.test a c C b pj σ H s _ _ hb hC (XM N.inv a) ⟨oe,e1,e2⟩ ?_)) (by intro q;cases q)
   cases b with
   | false=>exact ih K
   | true =>
    dsimp only at K
    rcases o.nm with⟨rfl,rfl⟩|⟨x,i,rfl,rfl,hx,hk⟩
    ·have K:JA ce X pj ι H ((m σi h).drop Zb) Q E:=K
     refine codeAny_handlers_suite (Jf7 N.inv.hok ha ht λ h' kp=>?_)
     have N2:Now ce (Jj X a) pj ι σi h σ H { s with heap:=h' }:=⟨XM (N.inv.kept (t':=s.toks) kp) a,N.rel,N.st⟩
     refine o.run a pj _ σ H ι σi h _ _ n c fs N.inv.ok N2 hj hi (λ i z=>by cases z) ?_
     have un:∀{pj:PnT}{ι:List Zi}{σi:ISt}{h:IH}{σ:L2.St}{H:Hp}{s:Zk},Now ce (Jj X a) pj ι σi h σ H s->Now ce X pj ι σi h σ H s:=λ q=>⟨Jeu N.inv.ok q.inv,q.rel,q.st⟩
     cases em:m σi h with
     | next σ2 h2=>rw[em] at K;exact λ s3 σ3 H3 ι3 N3 n3=>K s3 σ3 H3 ι3 (un N3) n3
     | brk σ2 h2=>rw[em] at K;exact λ s3 σ3 H3 ι3 N3 n3=>K s3 σ3 H3 ι3 (un N3) n3
     | cont σ2 h2=>rw[em] at K;exact λ s3 σ3 H3 ι3 N3 n3=>K s3 σ3 H3 ι3 (un N3) n3
     | ret v h2=>rw[em] at K;exact λ u s3 σ2 σ3 H3 ι3 N3 n3 r3=>K u s3 σ2 σ3 H3 ι3 (un N3) n3 r3
     | exc k σ2 h2=>rw[em] at K;exact Zf K
     | stuck=>rw[em] at K;exact Zf K
    ·have K:JA ce X pj ι H ((m (σi.set i (Za (.ref n))) h).drop (Za i)) Q E:=K
     refine codeAny_handlers_suite_as (Jf7 N.inv.hok ha ht λ h' kp=>?_)
     have I2:Inv (Jj X a) pj σ H { s with heap:=h' }:=XM (N.inv.kept (t':=s.toks) kp) a
     refine XU (X:=Jj X a) (v:=V.ref a) I2 hN hx (.inl hk) rfl (λ s3 I3=>?_) (.inr hk)
     have N3:Now ce (Jj X a) pj ι (σi.set i (Za (.ref n))) h (σ.set i (Za (V.ref a))) H s3:=⟨I3,N.rel,N.st.set i ⟨a,rfl,hi⟩⟩
     refine o.run a pj _ _ H ι _ h _ _ n c fs N.inv.ok N3 hj hi (λ j z l=>by cases z;exact ZX (by simpa using l)) ?_
     have fin:∀{ι3:List Zi}{σ2:ISt}{h2:IH}{σ3:L2.St}{H3:Hp}{s3:Zk}{W:Unit->Zk->Prop},Now ce (Jj X a) pj ι3 σ2 h2 σ3 H3 s3->(∀s4,Now ce X pj ι3 (σ2.set i Zb) h2 (σ3.set i Zb) H3 s4->W () s4)->Zq (Z1 X.prog X.w) X.A (do bindName X.env x .none;unbindBehindTheSuite X.env x pos) W E s3:=λ q k =>
      Jrp (Jeu N.inv.ok q.inv) hN hx hk λ s4 I4=>k s4 ⟨I4,q.rel,q.st.unset i⟩
     cases em:m (σi.set i (Za (.ref n))) h with
     | next σ2 h2=>rw[em] at K;exact λ s3 σ3 H3 ι3 N3 n3=>fin N3 λ s4 N4=>K s4 _ H3 ι3 N4 n3
     | brk σ2 h2=>rw[em] at K;exact λ s3 σ3 H3 ι3 N3 n3=>fin N3 λ s4 N4=>K s4 _ H3 ι3 N4 n3
     | cont σ2 h2=>rw[em] at K;exact λ s3 σ3 H3 ι3 N3 n3=>fin N3 λ s4 N4=>K s4 _ H3 ι3 N4 n3
     | ret v h2=>rw[em] at K;exact λ u s3 σ2 σ3 H3 ι3 N3 n3 r3=>fin N3 λ s4 N4=>K u s4 _ _ H3 ι3 N4 n3 r3
     | exc k σ2 h2=>rw[em] at K;exact Zf K
     | stuck=>rw[em] at K;exact Zf K
theorem J1o {body:List Zbv}{mb:S1}{h₀:Zbg}{hs:List Zbg}{ms:List HdI}{pos:Pos}(hN:X.N.Nodup)(hk:X.stack=X.env::X.outer)(hf:X.env.frame=Za X.env.locals)(hb:PS2 ce X body mb)(O:HdsOk ce X (h₀::hs) ms):PS1 ce X (.Try body (h₀::hs) [] [] pos) (sTry mb ms):=by
 intro pj s σ H ι σi h Q E N K
 unfold sTry at K
 refine wpAny_Try_except (hb pj s σ H ι σi h _ _ N ?_)
 cases e:mb σi h with
 | next σ2 h2=>rw[e] at K;exact λ s3 σ3 H3 ι3 N3 n3=>ZbQ (K s3 σ3 H3 ι3 N3 n3)
 | brk σ2 h2=>rw[e] at K;exact K
 | cont σ2 h2=>rw[e] at K;exact K
 | ret v h2=>rw[e] at K;exact K
 | stuck=>rw[e] at K;exact K
 | exc n σ2 h2 =>
  rw[e] at K
  dsimp only at K
  cases hj:h2[n]? with
  | none=>rw[hj] at K;exact Zf K
  | some ob =>
   cases ob with
   | exc c fs =>
    rw[hj] at K
    intro pl a s3 σ3 H3 ι3 N3 n3 hi s4 fl
    have N3:Now ce X pj ι3 σ2 h2 σ3 H3 s3:=⟨N3.inv.fewer λ p hp=>ZO.mpr ((ZO.mp hp).imp_right λ z=>Zab _ z),N3.rel,N3.st⟩
    obtain⟨C,tv,d,fe,hC,ha,ht⟩:=QF N3.rel hj hi
    refine Jlm N3.inv fl hk hf ha ht λ T oT h' p=>?_
    obtain⟨N4,n4⟩:=Jsn N3 hj hi hC ha p
    exact Jop hN O N4 hj hi (JA.mono (r:=Vs ms c n σ2 h2) K (n3.trans n4))
   | _=>rw[hj] at K;exact Zf K
end
theorem Jnm (a:Zd):ZeH "max" ⟨[a],[]⟩:=by unfold ZeH;kernel_rfl
section
variable {ce:CeT}{X:Cx}
def Xf:IV->IH->Res IV
 | .ref i,h=>match h[i]? with
  | some (.lst xs)=>(match JN xs with
   | some ns=>if ns=[] then .stuck else .ok (.int (JM (λ i=>ns.getD i 0) ns.length)) h
   | none=>.stuck)
  | _=>.stuck
 | _,_=>.stuck
theorem Jxn (hh:X.A.handled=Zb):Qu ce X (.builtin "max") (on1 Xf):=V8 λ pj s σ H ι σi h x xv u Q E N ru qx K=>by
 cases x with
 | ref i =>
  obtain⟨a,e1,ha⟩:=qx
  subst e1
  cases ru
  dsimp only[Xf] at K
  cases hi:h[i]? with
  | none=>rw[hi] at K;exact Zf K
  | some ob =>
   rw[hi] at K
   cases ob with
   | lst xs =>
    dsimp only at K
    cases hb:JN xs with
    | none=>rw[hb] at K;exact Zf K
    | some ns =>
     rw[hb] at K
     dsimp only at K
     split at K
     ·exact Zf K
     ·rename_i hne
      obtain⟨vs,e1,r1⟩:=N.at hi ha
      obtain⟨its,rv,pl,hz⟩:=N.inv.list (SqL.of e1)
      refine Jpc (d:=Zb) rfl (Jnm _) (λ q=>absurd q hne) hh pl.isList (Xa hb r1 rv) λ v h2 tk mi kk=>?_
      rcases mi with⟨e,_⟩|⟨_,t,ev⟩
      ·exact absurd e hne
      ·subst ev
       exact fin0 N K rfl _ _ (N.inv.kept (t':=tk) kk) ⟨t,rfl⟩
   | _=>exact Zf K
 | _=>exact Zf K
structure BasK (K:W.Frag)(C:Zi):Prop where
 sp:W.specialIn K (.ref C) "__getattribute__"=Za (Za (.builtin "type.__getattribute__"))
 rd:W.readsIn K C (.type "type")=Ze
 fc:∃fa,W.findIn K (.ref C) "__init__"=Za (Za (.ref fa))/\W.findCls K (.ref C) (.type "type") "__init__"=Za (.val (.ref fa))/\W.keepIn K (.ref fa)=Ze
variable {k:Nat}{fa C:Zi}{fd:Zam}{ps:List Str}{f:List IV->IH->Res IV}{dvs:List IV}{ds:List Zd}{x:Str}{p pos apos:Pos}{e:Expr}{es:List Expr}{ma:A1}{pl:Sem Bool}
end
section
variable {prog:ZA}{w:ZM}{A:ZG}{E:QvT}{s:Zk}{x y:Str}{t u:Tok}{Q:QvT}
open Builtin Builtin.Str in
end
section
variable {ce:CeT}{X:Cx}
end
theorem Jhr:entryFor table "proto.unchain"=Za Zdl.«proto.unchain» :=entryFor_of_tree (by kernel_rfl)
section
variable {prog:ZA}{w:ZM}{A:ZG}{E:QvT}{s:Zk}
theorem Jpi {α:Type}{x e:Zi}{ox oe:Obj}{vx ve:Array Zd}{Q:α->Zk->Prop}(hh:A.handled=Za (.ref x))(gx:s.heap.get? x=Za ox)(dx:ox.data=.fields vx)(x2:vx[2]?=Za .none)(ge:s.heap.get? e=Za oe)(de:oe.data=.fields ve)(sz:2<ve.size)(ne:x≠e)
  (h:E (.ref e) { s with heap:=s.heap.update e (Zac (·.setIfInBounds 2 (.ref x))) }):Zq (Z1 prog w) A (raiseNew (α:=α) (.ref e)) Q E s:=by
 unfold raiseNew
 refine Zh (wpAny_handled ?_)
 rw[hh]
 show Zq _ _ (if (Za4 x != Za4 e)=Ze then _ else _) _ _ s
 rw[if_pos (by simp[bne_iff_ne];exact ne)]
 refine Zh (Zat (wpAny_runValue (ZaA Jhr ?_)))
 ·unfold Zdl.«proto.unchain»
  dsimp only
  refine Zh (Zbs gx dx x2 ?_)
  rw[if_pos (by rfl)]
  refine Zh (Zw ?_)
  refine Zw ?_
  unfold updateField
  refine Zh (Zh (wpAny_load ge ?_))
  rw[de]
  dsimp only
  rw[if_pos sz]
  exact wpAny_update ge (wpAny_throw h)
theorem Jkg {it l x:Zi}{i:Nat}{items:Array Zd}{ox:Obj}{vx:Array Zd}{Q:Option Zd->Zk->Prop}(hh:A.handled=Za (.ref x))(gx:s.heap.get? x=Za ox)(dx:ox.data=.fields vx)(x2:vx[2]?=Za .none)(xi:x≠it)
  (hit:s.heap.IsListIter it l i)(hl:s.heap.IsList l items)(hx:items[i]?=Zb)
  (hQ:∀h',Zek it s.heap h'->Q Zb { s with heap:=h' }):Zq (Z1 prog w) A (Zcp (.ref it)) Q E s:=by
 obtain⟨o,ho,hc,hd⟩:=id hit
 obtain⟨ol,hol,_,nl,hdl⟩:=hl
 unfold Zcp
 refine Zh (wpAny_attempt (wpAny_callSpecial?_slot (name:=Zap "__next__") hit.typeIs slot_listiter_next
  (wpAny_call_entry slot_listiter_next hit.typeIs entry_listiter_next ?_ (args_listiter_next _))))
 show Zq _ _ (field (.ref it) 0>>=_) _ _ s
 refine Zh (Zbs ho hd (x:=.ref l) rfl ?_)
 show Zq _ _ (if (Za4 l==Zaf)=Ze then _ else _) _ _ s
 rw[if_neg (show ¬((Za4 l==Zaf)=Ze) from Zp)]
 show Zq _ _ (field (.ref it) 1>>=_) _ _ s
 refine Zh (Zbs ho hd (x:=.int i 0) rfl ?_)
 show Zq _ _ (ZcS (.ref l)>>=_) _ _ s
 refine Zh (ZbF hol hdl ?_)
 simp only[ZcA,hx]
 refine Zh (wpAny_rule (Zh (ZbE ho hd (by simp) ?_)))
 show Zq _ _ (newExc (.type "StopIteration") []>>=_) _ _ _
 refine Zh ?_
 simp only[newExc,newTuple]
 refine Zh (ZcC ?_ (by size_fits))
 refine Zh (m:=firstArgMember _ _) (wpAny_of_eq (a:=Zaf) (by first|rfl|(simp only[firstArgMember];rfl)) ?_)
 refine ZcC ?_ (by size_fits)
 have xlt:=Zx gx
 have gx1:(s.heap.update it (Zac λ x=>x.setIfInBounds 0 Zaf)).get? x=Za ox:=(Z2 _ _ (ZW xi)).trans gx
 have eh:∀b o,b≠it->s.heap.get? b=Za o->(s.heap.update it (Zac λ x=>x.setIfInBounds 0 Zaf)).get? b=Za o:=λ b o n q=>(Z2 _ _ (ZW n)).trans q
 generalize s.heap.update it (Zac λ x=>x.setIfInBounds 0 Zaf)=h0 at gx1 eh ⊢
 have gx2:=Zg (h:=h0) { cls:=ZbZ "tuple",data:=Data.seq #[] } gx1
 have e1:∀b o,h0.get? b=Za o->(h0.push { cls:=ZbZ "tuple",data:=Data.seq #[] }).get? b=Za o:=λ b o q=>Zg _ q
 refine Jpi (A:=A.in1) (x:=x) hh (Zg _ gx2) dx x2 (Zy _ rfl) rfl (by simp;omega) (ZD (Zx gx2)) ?_
 refine Zh (wpAny_isInstance (T:="StopIteration") (b:=Ze) ⟨_,Za3 _ (Zy _ rfl) (Zby (Zax rfl _)),Zd3 _ _⟩ isSubtype_stop ?_)
 refine Zw (hQ _ λ b o n q=>?_)
 have l1:=Zx (e1 b o (eh b o n q))
 rw[Z2 _ _ (Zbq l1)]
 exact Zg _ (e1 b o (eh b o n q))
end
theorem Jnc {X0:Cx}{tg:Expr}(a it:Zi):TurnC X0.prog X0.w (Jui X0) tg (Itl X0.K a) [it] it (λ i h=>h.IsListIter it a i) where
 obj:=(XW (P:=X0.prog) (w:=X0.w) (K:=X0.K) (tg:=tg) a it).obj
 keep:=(XW (P:=X0.prog) (w:=X0.w) (K:=X0.K) (tg:=tg) a it).keep
 self:=(XW (P:=X0.prog) (w:=X0.w) (K:=X0.K) (tg:=tg) a it).self
 item:=by
  intro X i s σ H c I hf st hg
  obtain⟨c1,c2,c3,_⟩:=c
  rw[<- c1,<-c2]
  rw[<- c3] at hg ⊢
  obtain⟨xs,x,hq,hx⟩:=hg
  obtain⟨its,rv,p,hz⟩:=I.list hq
  obtain⟨u,hu,ru⟩:=rv.get hx
  obtain⟨f0,f1,f2,f3,f4,f5⟩:=hf it (by simp)
  refine Zc8 st p.isList (x:=u) (by simpa using hu) λ h' st' sb=>?_
  have I1:Inv X [] σ H { s with heap:=h' }:=I.turned (t':=s.toks) (λ b o hb e=>(sb.2 b hb).trans e) f0 f1 f3 f4 f5
  obtain⟨o,e,c,d⟩:=id st'
  exact⟨u,rfl,VZ (s:={ s with heap:=h' }) e c d (by decide) ⟨x,H,I1,ru,⟨rfl,λ ys hy=>by rw[I.list_inj hy hq];exact hx⟩,st',λ b hb=>(hf b hb).1⟩⟩
 done:=by
  intro X i s σ H c I hf st hg
  obtain⟨c1,c2,c3,e,oe,u,vs,w1,w2,w3,w4⟩:=c
  rw[<- c1,<-c2]
  rw[<- c3] at hg
  obtain⟨xs,hq,hx⟩:=hg
  obtain⟨its,rv,p,hz⟩:=I.list hq
  obtain⟨f0,f1,f2,f3,f4,f5⟩:=hf it (by simp)
  have hl:=rv.length
  exact Jkg w1 (I.hok e _ w2).1 w3 w4 (λ z=>by rw[z,f0] at w2;cases w2) st p.isList (by simp;omega) λ h' eb=>⟨rfl,I.turned (t':=s.toks) (λ b o hb e=>eb b o hb e) f0 f1 f3 f4 f5⟩
def Ju9 (ml:E1):I1:=λ σ h=>(ml σ h).bind λ v h1=>match v with
 | .ref i=>(match h1[i]? with
  | some (.lst xs)=>.ok ⟨xs,λ h'=>h'[i]?=Za (.lst xs)⟩ h1
  | _=>.stuck)
 | _=>.stuck
section
variable {ce:CeT}{X:Cx}
theorem Jvg {tg l:Expr}{ml:E1}(hl:PEi ce X l ml):PIc (Jui X) ce X tg l (Ju9 ml):=by
 intro pj s σ H ι σi h Q E N K
 refine hl pj s σ H ι σi h _ E N ?_
 unfold Ju9 at K
 cases e0:ml σi h with
 | exc n h'=>rw[e0] at K;exact K
 | stuck=>rw[e0] at K;exact K
 | ok v h' =>
  rw[e0] at K
  intro u s1 H1 ι1 N1 n1 r1
  obtain⟨w,rw',q⟩:=r1
  have Zeb:∀b∈[s1.heap.objs.size],FpOk X pj H1 b:=λ b hb=>by
   have e:b=s1.heap.objs.size:=by simpa using hb
   subst e
   exact N1.inv.fpOk (Zr _) (N1.inv.hok.fresh (Zr _))
  cases v with
  | ref i =>
   obtain⟨a,e1,ha⟩:=q
   subst e1
   cases rw'
   cases hi:h'[i]? with
   | none=>simp only[Res.bind,hi] at K
   | some o =>
    cases o with
    | lst xs =>
     simp only[Res.bind,hi] at K
     obtain⟨vs,e1,r1⟩:=N1.at hi ha
     obtain⟨its,rv,p,hz⟩:=N1.inv.list (SqL.of e1)
     refine ZaV p.isList (K _ _ H1 ι1 ⟨N1.inv.kept (t':=s1.toks) λ b o e=>Zg _ e,N1.rel,N1.st⟩ n1 ?_)
     exact⟨s1.heap.objs.size,[s1.heap.objs.size],_,Itl X.K a,rfl,Jnc a _,⟨_,Zy _ rfl,rfl,rfl⟩,Zeb,Jtw ha⟩
    | _=>simp only[Res.bind,hi] at K
  | _=>simp only[Res.bind] at K
theorem Jvd {N0 loc caps:List Str}{js:List Nat}{sc₀ scope:Zba}{tg iter elt:Expr}{ifs:List Expr}{mi:I1}{g:G1}{mt:T1}{me:E1}{pos:Pos}(hw:Warm X.A X.H₀)(hi:PIc (Jui X) ce X tg iter mi)
  (hg:∀C s H fp,PGi ce (cxC X (loc++caps) scope C s H fp) tg g)(ht:∀C s H fp,PTsi ce (cxC X (loc++caps) scope C s H fp) ifs mt)(he:∀C s H fp,PEi ce (cxC X (loc++caps) scope C s H fp) elt me)
  (ok:JY N0 loc caps js sc₀ scope=Ze)(hN0:X.N=N0:=by rfl)(hsc:X.env.scope=sc₀:=by rfl)(hs:∀x,Zb3 iter X.env x=pure x:=by intro _;rfl):PEi ce X (.ListComp elt [⟨tg,iter,ifs,0⟩] scope pos) (Js mi loc.length js g mt me):=by
 intro pj s σ H ι σi h Q E N K
 rw[eval_ListComp]
 have wH:Warm X.A H:=let ⟨a,oe,u,vs,e1,e2,e3,e4⟩:=hw;⟨a,oe,u,vs,e1,N.inv.base.frzs _ _ _ e2,e3,e4⟩
 refine Jf3 hi hg ht he ok hN0 hsc hs (λ _ _ _ _ _ x=>⟨rfl,rfl,rfl,wH.mono x⟩) N ?_
 cases e0:Js mi loc.length js g mt me σi h with
 | exc n h'=>rw[e0] at K;exact K
 | stuck=>rw[e0] at K;exact K
 | ok v h' =>
  rw[e0] at K
  exact λ D C m s' H' ι' N' n' r hns fC=>⟨m,hns,λ h2 sb=>K _ _ H' ι' (N'.letgo fC sb) n' r⟩
end
section
variable {ce:CeT}{X:Cx}{pj:PnT}{σ:L2.St}{H:Hp}{s:Zk}{ι:List Zi}{σi:ISt}{h:IH}{n:Nat}{c:Str}{fs:List (Str×IV)}{a:Zi}
theorem Jmf (N:Now ce X pj ι σi h σ H s)(hj:h[n]?=Za (.exc c fs))(hi:ι[n]?=Za a) :
  ∃oe,Now ce X pj ι σi (h.set n (.hld c fs)) σ (upd H a (.frz oe (.own 0))) s/\Nxt ι H ι (upd H a (.frz oe (.own 0)))/\∀A:ZG,Warm (A.mark (Za (.ref a))) (upd H a (.frz oe (.own 0))):=by
 obtain⟨C,tv,d,fe,hC,ha,ht⟩:=QF N.rel hj hi
 obtain⟨oe,vs,e1,e2,e3,e4,e5,e6⟩:=ExF.get N.inv.hok ha
 obtain⟨R2,n2⟩:=N.rel.write hi ha (by rw[ha];trivial) (o:=.frz oe (.own 0)) (io:=.hld c fs) ⟨C,oe,.own 0,vs,e6▸fe.mono (λ b o u q=>by rw[Jo (λ z=>by subst z;rw[ha] at q;cases q)];exact q),hC,Jy,e2,e3,e5⟩
 have I2:Inv X pj σ (upd H a (.frz oe (.own 0))) s:=N.inv.write (x:=a) (e:=a) (h':=s.heap) (t':=s.toks) (by rw[ha];trivial) (.inl rfl) (λ _ _ _ q=>q) ⟨oe,e1⟩ ⟨e1,oe,e1⟩
 exact⟨oe,⟨I2,R2,N.st.mono n2⟩,n2,λ A=>⟨a,oe,.own 0,vs,rfl,Jy,e3,e5⟩⟩
end
section
variable {P:ZA}{w:ZM}{K:W.Frag}{mg:Str->Option Zd}{base:ZT}{ce:CeT}
theorem FunD.runW {x qual:Str}{st:Zbv}{f:Zi}{fd:Zam}{dV:Zd}{N ps:List Str}{k:Nat}{m:S1}(F:FunD K x qual st f fd dV)(S:FnScope N ps (Jx st))
  (hbody:∀(cdv:Zd)(A:ZG)(outer:List Env)(s:Zk)(H:Hp)(E:XK)(a:Zi),W.codeIn K cdv qual=Ze->Room k (A.deeper (ZcK qual (Jx st) s.heap.objs.size f cdv))->Warm (A.mark (Za (.ref a))) H->PS2 ce (Jj (cxOf (CXI P w) P w K mg base N qual (Jx st) f cdv A outer s H E).nox a) (JG st) m)
  {A:ZG}{outer:List Env}{s:Zk}{H:Hp}{args:Args}{us:List Zd}{vs:List V}{a:Zi}{ι:List Zi}{h:IH}{ivs:List IV}{Qv:VK}(hr:Room (k+1) A)(e0:Env0 P w K mg base A outer s H)(hw:Warm (A.mark (Za (.ref a))) H)(hb:Zcw s fd args (ps.zip us))(r:Vals vs us)(hl:vs.length=ps.length)(R:Rel ce K ι h H)(rv:RVs K ι H ivs vs)
  (hk:match fnI N.length m ivs h with
   | .ok v h'=>∀x H' ι',Rel ce K ι' h' H'->Nxt ι H ι' H'->RV K ι' H' v x->Qv x H'
   | _=>False) :
  ZbW (Z1 P w) (A.mark (Za (.ref a))) (.call (.ref f) args) (λ res s'=>match res with
   | .ok (.ret u)=>CE outer P w H s Qv u s'
   | _=>False) s:=by
 obtain⟨oc,od,kV,doc,pm,an,cdv,ct,osl,rfl,lk,hcd⟩:=F.ex
 have KX:K.In s.heap:=e0.mod.kin.keeps λ b o e=>(e0.bs b o e).1
 have lim:s.heap.NoLimit:=e0.mod.nolimit.keeps λ b o e=>(e0.bs b o e).1
 refine Zed (A:=A.mark (Za (.ref a))) hr.depth (KX _ _ lk) rfl S.co S.gen rfl (W.codeRec_of KX hcd) (hb _ _ _ _ ?_)
 refine Zds S.kind (λ ⟨y,v⟩ hy=>?_) λ env he s1 z=>?_
 ·rcases S.par y (Zda hy).1 with q|q
  ·exact .inl q
  ·exact .inr ⟨q,W.cellsFrom_some _ _ _ (.inl q)⟩
 subst he
 refine⟨lim.keeps z.toInCall.keep,codeAny_func ?_⟩
 have I:Inv (cxOf (CXI P w) P w K mg base N qual (Jx st) f cdv A outer s H (λ _ _ _=>False)) [] (start N vs) H s1:=Jjc S hr.hd e0 hl r z
 have I2:Inv (Jj (cxOf (CXI P w) P w K mg base N qual (Jx st) f cdv A outer s H (λ _ _ _=>False)).nox a) [] (start N vs) H s1:=XM (I.wish _) a
 have fin:∀{s':Zk}{σ':L2.St}{H':Hp}{v:V}{u:Zd},Inv (Jj (cxOf (CXI P w) P w K mg base N qual (Jx st) f cdv A outer s H (λ _ _ _=>False)).nox a) [] σ' H' s'->RelV v u->Qv v H'->CE outer P w H s Qv u s' :=
  λ {s' σ' H' v u} J rv q=>⟨v,H',J.os,J.bare,J.base,J.hok,rv,q⟩
 refine ZP (hbody cdv A outer s H (λ _ _ _=>False) a hcd (hr.deeper _) hw [] s1 (start N vs) H ι (V2 N.length ivs) h (λ fl s'=>match fl with
  | .ret u=>CE outer P w H s Qv u s'
  | .next=>CE outer P w H s Qv .none s'
  | _=>False) (λ _ _=>False) ⟨I2,R,rv.start⟩ ?_) (λ fl s' q=>?_) λ _ _ q=>q.elim
 ·unfold fnI SRes.fin at hk
  cases e:m (V2 N.length ivs) h with
  | next σ2 h2 =>
   rw[e] at hk
   exact λ s3 σ3 H3 ι3 N3 n3=>fin (v:=V.non) N3.inv rfl (hk .non H3 ι3 N3.rel n3 rfl)
  | ret v h2 =>
   rw[e] at hk
   exact λ u s3 σ3i σ3 H3 ι3 N3 n3 ⟨y,ry,q⟩=>fin N3.inv ry (hk y H3 ι3 N3.rel n3 q)
  | exc j σ2 h2 =>
   rw[e] at hk
   dsimp only at hk
   cases q:h2[j]? with
   | none=>rw[q] at hk;exact hk.elim
   | some o=>cases o<;>(rw[q] at hk;exact hk.elim)
  | _=>rw[e] at hk;exact hk.elim
 ·cases fl with
  | ret u=>exact q
  | next=>exact q
  | brk=>exact q.elim
  | cont=>exact q.elim
end
def Jpn (j:Nat)(f:List IV->IH->Res IV)(i:Nat):S1:=λ σ h=>match σ[i]? with
 | some (Za (.ref n))=>(match h[n]? with
  | some (.exc c fs)=>(match f [.ref n] (h.set n (.hld c fs)) with
   | .ok v h'=>.next (σ.set j (Za v)) h'
   | _=>.stuck)
  | _=>.stuck)
 | _=>.stuck
section
variable {ce:CeT}{X:Cx}
theorem Jsp {a fa:Zi}{x f e xf qual p1:Str}{px pf pe pc pos:Pos}{st:Zbv}{fd:Zam}{dV:Zd}{N':List Str}{k i j:Nat}{m:S1}(F:FunD X.K xf qual st fa fd dV)(S:FnScope N' [p1] (Jx st))
  (hbody:∀(cdv:Zd)(A:ZG)(outer:List Env)(s:Zk)(H:Hp)(E:XK)(a:Zi),W.codeIn X.K cdv qual=Ze->Room k (A.deeper (ZcK qual (Jx st) s.heap.objs.size fa cdv))->Warm (A.mark (Za (.ref a))) H->PS2 ce (Jj (cxOf (CXI X.prog X.w) X.prog X.w X.K X.mg X.base N' qual (Jx st) fa cdv A outer s H E).nox a) (JG st) m)
  (hr:Room (k+1) X.A)(hN:X.N.Nodup)(hjx:X.N[j]?=Za x)(hlx:Loc X.env.scope x)(hf:X.fn x=Ze∨X.env.scope.names.lookup x=Za .local)(hs:Zc4 (.Call (.Name f pf) [.Name e pe] [] pc) (Za (.Name x px)) pos.line X.env=pure Zj)
  (hie:X.N[i]?=Za e)(hve:PEi ce (Jj X a) (.Name e pe) (Ja i))(hg:Gl X f)(hm:X.mg f=Za (.ref fa))(hk:W.keepIn X.K (.ref fa)=Ze)(hb:JL X.K fd [p1] [])(hdb:(f==("__debug__":Str))=Zj)
  (he:Z9 [.Name e pe] X.env=(Zj,ZaJ (.Name e pe) X.env)::Z9 [] X.env:=by rfl):PSH ce X a (Za i) [.Assign [.Name x px] (.Call (.Name f pf) [.Name e pe] [] pc) pos] (Jpn j (fnI N'.length m) i):=by
 intro pj s σ H ι σi h Q E n c fs ok Nw hj hi hsl K
 have li:i<σi.length:=by
  rw[Nw.st.len,Nw.inv.len]
  exact(Zn.mp hie).1
 have hs1:=hsl i rfl li
 have ha:PAi ce (Jj X a) [.Name e pe] (Jb (Ja i) Jd):=JX hve Qb he
 unfold Jpn at K
 rw[hs1] at K
 dsimp only at K
 rw[hj] at K
 dsimp only at K
 refine ZdM (wpAny_Assign_Name ?_ hs)
 refine ZQ (QP Nw.inv hg hm ?_ hdb)
 refine W.callWith_K (h₀:=X.base) Nw.inv.ok.mod.kin hk ?_ he rfl
 refine ha pc pj s σ H ι σi h _ E Nw ?_
 have ev:Jb (Ja i) Jd σi h=.ok [.ref n] h:=by simp[Jb,Jd,Ja,hs1,Res.bind]
 rw[ev]
 intro us s1 H1 ι1 N1 n1 r1
 obtain⟨vs,rv,qs⟩:=r1
 obtain⟨w,rfl,a',rfl,ha'⟩:=qs.one_of
 obtain⟨u,rfl,ru⟩:=Qq rv
 cases ru
 obtain rfl:a'=a:=Zaj (ha'.symm.trans (n1.at hi))
 refine⟨N1.inv.kIn,?_⟩
 obtain⟨oe,N2,n2,hw⟩:=Jmf N1 hj ha'
 have IX:=Jeu ok N2.inv
 cases er:fnI N'.length m [.ref n] (h.set n (.hld c fs)) with
 | exc _ _=>rw[er] at K;exact Zf K
 | stuck=>rw[er] at K;exact Zf K
 | ok v h' =>
  rw[er] at K
  refine Zc0 (ZbN (F.runW S hbody (ivs:=[.ref n]) (Qv:=λ y H'=>∃ι',Rel ce X.K ι' h' H'/\Nxt ι1 (upd H1 a' (.frz oe (.own 0))) ι' H'/\RV X.K ι' H' v y) hr IX.env0 (hw X.A) (hb s1 [.ref a'] IX.kIn (by simp)) (r:=(.cons (show RelV (.ref a') (.ref a') from rfl) .nil)) (hl:=rfl) (R:=N2.rel) (rv:=⟨_,_,rfl,⟨a',rfl,ha'⟩,rfl⟩) ?_) λ res s' q=>?_)
  ·rw[er]
   exact λ y H' ι' R' n' q=>⟨ι',R',n',q⟩
  ·match res,q with
   | .ok (.ret u),q =>
    obtain⟨y,H',I',ry,ι',R',n',qy⟩:=IX.after q
    have nn:Nxt ι H ι' H':=(n1.trans n2).trans n'
    exact XU (X:=Jj X a') (XM I' a') hN hjx hlx ry (λ s2 I2=>ZbQ (K s2 _ H' ι' ⟨I2,R',(Nw.st.mono nn).set j qy⟩ nn)) hf
   | .error _,q=>exact q.elim
   | .ok .next,q=>exact q.elim
   | .ok .brk,q=>exact q.elim
   | .ok .cont,q=>exact q.elim
end
section
variable {prog:ZA}{w:ZM}{A:ZG}{E:QvT}{s:Zk}
end
def neIn (K:W.Frag)(C:Zi):Bool:=match K.lookup C with
 | some ⟨.type "type",_,.cls cd,sl⟩=>(match cd.mro,sl.toList with
  | [.ref C',.type "object"],[_,_,_,_,Za (.builtin _),_]=>C'==C&&!cd.hasDel&&W.nsOkIn K cd.ns&&W.nsIn K cd.ns "__eq__"==Za Zb&&W.nsIn K cd.ns "__ne__"==Za Zb
  | _,_=>Zj)
 | _=>Zj
theorem neIn.cmp {K:W.Frag}{C x dx:Zi}{h:ZT}(q:neIn K C=Ze)(I:K.In h)(hx:h.get? x=Za (W.instObj C dx)):h.CmpInst x C [.type "object"]:=by
 unfold neIn at q
 split at q
 case h_2=>cases q
 rename_i dd cd sl ho
 split at q
 case h_2=>cases q
 rename_i D k0 k1 k2 k3 n k5 em es
 simp only[Zl,beq_iff_eq,ZaH] at q
 obtain⟨⟨⟨⟨e1,e3⟩,e5⟩,e6⟩,e7⟩:=q
 subst e1
 obtain⟨nm,bs,mro,N,qn,hd,sn,sub,ab,col,del⟩:=cd
 have em:mro=[.ref D,.type "object"]:=em
 have e3:del=Zj:=e3
 subst em e3
 have es:sl=#[k0,k1,k2,k3,Za (.builtin n),k5]:=by
  rw[<- ZcY (xs:=sl),es]
 subst es
 exact⟨_,nm,qn,N,bs,hd,sn,sub,ab,col,dd,k0,k1,k2,k3,k5,n,_,hx,rfl,I _ _ ho,.of_isNs (W.isNs_of_in I e5),W.nsMap_none_of_in I e5 e6,W.nsMap_none_of_in I e5 e7⟩
section
variable {ce:CeT}{X:Cx}{pj:PnT}{s:Zk}{σ:L2.St}{H:Hp}{ι:List Zi}{σi:ISt}{h:IH}
end
section
variable {ce:CeT}{X:Cx}
end
def Jov:IV->List IV->IH->Res IV
 | .ref i,[.bl k],h=>match h[i]? with
  | some (.lst xs)=>(match Ve xs with
   | some ns=>(match ns.findIdx? (· ==k) with
    | some j=>.ok (.int j) h
    | none=>.stuck)
   | none=>.stuck)
  | _=>.stuck
 | _,_,_=>.stuck
def isB (k:Bool):Zd->Bool
 | .bool a=>a==k
 | _=>Zj
section
variable {ce:CeT}{X:Cx}
theorem Jsb (hu:X.A.units+64<Zet):MtI ce X "list" "list.index" Jov:=by
 intro pj s σ H ι σi h x xs v us Q E N rx rs K
 obtain⟨xv,rx,qx⟩:=rx
 obtain⟨vs,rv,qs⟩:=rs
 cases x with
 | ref i =>
  match xs,K with
  | [y],K =>
   cases y with
   | bl k =>
    obtain⟨a,rfl,ha⟩:=qx
    obtain⟨w,rfl,qw⟩:=qs.one_of
    cases (show w=.bl k from qw)
    obtain⟨u,rfl,ru⟩:=Qq rv
    cases ru
    cases rx
    dsimp only[Jov] at K
    cases hi:h[i]? with
    | none=>rw[hi] at K;exact Zf K
    | some ob =>
     rw[hi] at K
     cases ob with
     | lst zs =>
      dsimp only at K
      cases hb:Ve zs with
      | none=>rw[hb] at K;exact Zf K
      | some ns =>
       rw[hb] at K
       dsimp only at K
       cases hj:ns.findIdx? (· ==k) with
       | none=>rw[hj] at K;exact Zf K
       | some j =>
        rw[hj] at K
        obtain⟨ws,e1,r1⟩:=N.at hi ha
        obtain⟨z,its,n,r,hl,eo⟩:=N.inv.lstM e1
        have are:=Jhn hb r1 r
        subst are
        obtain⟨hlt,hp,hno⟩:=Zaz.mp hj
        have sb:(2:Nat)^40 ≥ sizeLine:=by decide
        have ln:(ns.map Zcx).length=ns.length:=Zo ..
        refine ZcO F.slot_list_index ⟨_,eo,rfl⟩ F.entry_list_index (F.args_list_index_2 _ _)
         (SeqAt.list_indexAt a (ns.map Zcx).toArray n Zb #[] (.bool k) (isB k) j (by simp;omega) (by omega) ?_ (λ m hm hmj=>?_)) ⟨eo,λ y hy=>?_,?_⟩
        ·simpa [isB] using hp
        ·have:=hno m hmj
         simpa [isB] using this
        ·obtain⟨m,hm,rfl⟩:=Zef.mp hy
         have q:=SeqAt.eqAt_reads (.bool (ns[m]'(by simpa using hm))) (.bool k) X.A.in1 s (.bool (ns[m]'(by simpa using hm))) (.bool k) [] [] (.bool _) (.bool _) rfl rfl (by show X.A.units+1+_<_;simp[PyData.depth];omega)
         simpa [isB,ZaP] using q
        ·exact fin0 N K rfl _ _ (N.inv.kept (t':=s.toks+1) λ _ _ e=>e) ⟨_,rfl⟩
     | _=>exact Zf K
   | _=>exact Zf K
  | [],K=>exact Zf K
  | y::_::_,K=>cases y<;>exact Zf K
 | _=>cases xs with
  | nil=>exact Zf K
  | cons y r=>cases y<;>cases r<;>exact Zf K
end
section
variable {X:Cx}
end
section
variable {ce:CeT}{X:Cx}
end
def Vn:Ty->Option Bool
 | .lst=>Za Ze|.ins c=>if c=="Work" then Za Zj else Zb|.exc _=>Zb|_=>Za Zj
theorem Jms {ce:CeT}{K:W.Frag}(h:∀C,ce "Work"=Za C->ClsI K C/\W.kitOne K (.ref C) (.type "list")=Za Zj):IsOk ce K (.type "list") Vn:=by
 have O:IsOk ce K (.type "list") Ql:=Jjd
 refine⟨O.non,O.bl,O.int,O.str,O.lst,O.tup,O.dct,λ k C b e hk=>?_,(λ k C b e=>by cases e)⟩
 unfold Vn at e
 dsimp only at e
 split at e
 ·rename_i q
  cases beq_iff_eq.mp q
  cases e
  exact h C hk
 ·cases e
def ExC (h:ZT)(C:Zi):Prop:=∃nm q N bs bm hdct sn sub ab col dd k0 k1 k2 k3 k5 newId,h.get? C=Za (Zd4 nm q C N bs bm hdct sn sub ab col dd k0 k1 k2 k3 k5 newId)/\bm.contains (.type "BaseException")=Ze
theorem Jgv {M:Ze4}{A:ZG}{E:QvT}{env:Env}{s:Zk}{x:Sem Zd}{Q:Flow->Zk->Prop}(hh:A.handled=Zb)
  (h:Zq M A x (λ v s₁=>∃e oe vs C,v=.ref e/\ExC s₁.heap C/\s₁.heap.get? e=Za oe/\oe.cls=.ref C/\oe.data=.fields vs/\Zq M A (ZcQ (.ref e) Zb) (λ _ s₂=>E (.ref e) s₂) E s₁) E s) :
  Zq M A (raiseStmt env (Za x) Zb) Q E s:=by
 unfold raiseStmt
 refine Zh (ZP h (λ v s₁ h₁=>?_) λ _ _ x=>x)
 obtain⟨e,⟨oc,od,odt,osl⟩,vs,C,rfl,⟨nm,q,N,bs,bm,hdct,sn,sub,ab,col,dd,k0,k1,k2,k3,k5,newId,hC,hbase⟩,he,hc,hd,hE⟩:=h₁
 have hcB:(Za4 C::bm).contains (.type "BaseException")=Ze:=by rw[List.contains_cons,hbase,Bool.or_true]
 dsimp only at hc hd
 subst hc hd
 obtain⟨hp,g,d,tk,os⟩:=s₁
 generalize hSF:ZcQ=SF at hE ⊢
 repeat (first|with_reducible refine ZbX he ?_|with_reducible refine ZbX hC ?_|(with_reducible refine wpAny_isSubtype_exc hC ?_;rw[hcB])|wp_step)
 subst hSF
 exact ZP hE (λ _ s₂ z=>wpAny_raiseNew_none hh z) λ _ _ z=>z
def XT (rz:Str->Bool)(m:E1):S1:=λ σ h=>rS σ (m σ h) λ v h1=>match v with
 | .ref n=>(match h1[n]? with
  | some (.exc c _)=>if rz c then .exc n σ h1 else .stuck
  | _=>.stuck)
 | _=>.stuck
section
variable {ce:CeT}{X:Cx}{x:Expr}{m:E1}{pos:Pos}
theorem Jst {rz:Str->Bool}(hc:X.calm=Ze)(he:PEi ce X x m)(hx:∀c C,rz c=Ze->W.nsIn X.K Zm c=Za (Za (.ref C))->∀h:ZT,X.K.In h->ExC h C):PS1 ce X (.Raise (Za x) Zb pos) (XT rz m):=by
 intro pj s σ H ι σi h Q E N K
 rw[arm_exec_Raise]
 refine Zh (Zb9 ?_)
 show Zq _ _ (raiseStmt X.env (Za (ZaJ x X.env>>=λ v=>Ze8 pos>>=λ _=>pure v)) Zb) Q E s
 refine Jgv (N.inv.ok.hd hc) ?_
 refine Zh (krun he N K λ v h1 u s1 H1 ι1 N1 n1 r1 K1=>?_)
 refine Zh (Zb9 (Zw ?_))
 cases v with
 | ref n =>
  obtain⟨xv,rx,a,rfl,hi⟩:=r1
  cases rx
  dsimp only at K1
  cases hj:h1[n]? with
  | none=>rw[hj] at K1;exact Zf K1
  | some ob =>
   rw[hj] at K1
   cases ob with
   | exc c fs =>
    dsimp only at K1
    split at K1
    ·rename_i hr
     obtain⟨C,tv,d,fe,hC,ha,ht⟩:=QF N1.rel hj hi
     obtain⟨oe,vs,e1,e2,e3,_⟩:=ExF.get N1.inv.hok ha
     refine⟨a,oe,vs,C,rfl,hx c C hr hC _ N1.inv.kIn,e1,e2,e3,?_⟩
     refine Jf7 N1.inv.hok ha ht λ h' keep=>?_
     exact K1 [] a _ σ H1 ι1 ⟨by rw[ZaK];exact N1.inv.kept (t':=s1.toks) keep,N1.rel,N1.st⟩ .refl hi _ (.inl rfl)
    ·exact Zf K1
   | _=>exact Zf K1
 | _=>exact Zf K1
end
section
variable {prog:ZA}{w:ZM}{A:ZG}{E:QvT}{hp:ZT}{ge:Array Ze3}{dr:Drawn}{tk:Nat}{ox:OsState}
variable {nm qn:Str}{C Na:Zi}{bs bm bmB:List Zd}{hdct:Bool}{sn:List Str}{sub:List Zd}{ab:Bool}{col:Option Bool}{dd:Option Zi}{k0 k1 k2 k3 k5:Option Zd}{B Bn newId nid initId inN:String}{bmN:List Zd}
theorem Jp8 (Fn:ZdY Bn newId inN bmN)(hBn:bmB.contains (.type Bn)=Ze)(F:ZdY B nid initId bmB)(T:OwnTail hp bmB bm){mN:Str->Option Zd}{as:List Zd}{fI:Zi}{oI:Obj}{Q:Fin->Zk->Prop}
  (hC:hp.get? C=Za (Zd4 nm qn C Na bs bm hdct sn sub ab col dd k0 k1 k2 k3 k5 newId))(hn:hp.Ns Na mN)(hi:mN "__init__"=Za (.ref fI))(hf:hp.get? fI=Za oI)(hfc:oI.cls=.type "function")(hz:as.length<=sizeLine)
  (go:∀h' e,Zem hp h' e (.ref C) as->Zq (Z1 prog w) A (call (.ref fI) (.ref e::as)) (λ r s'=>r=.none/\Q (.done (.ret (.ref e))) s') E ⟨h',ge,dr,tk,ox⟩) :
  Zq (Z1 prog w) A (Zdl.«type.__call__» ⟨.ref C::as,[]⟩) Q E ⟨hp,ge,dr,tk,ox⟩:=by
 repeat (first|with_reducible refine ZbX hC ?_|with_reducible refine wpAny_madeBy_exc hC ?_|wp_step)
 refine codeAny_call_builtin_code (Zc1 _ Fn.quiet) (wpAny_check_new_subU Fn hBn T hC (codeAny_exc_new_subU Fn hBn F T hC ?_ hz))
 show Zq _ _ _ _ _ _
 generalize hoT:({ cls:=.type "tuple",data:=.seq as.toArray }:Obj)=oT
 generalize hoE:({ cls:=.ref C,data:=.fields #[.ref hp.objs.size,.none,.none,.none,.bool Zj,.none] }:Obj)=oE
 have up:∀b o,hp.get? b=Za o->((hp.push oT).push oE).get? b=Za o:=λ b o q=>Zg _ (Zg _ q)
 have gE:((hp.push oT).push oE).get? (hp.objs.size+1)=Za oE:=by
  subst hoE hoT
  heap_get
 have gT:((hp.push oT).push oE).get? hp.objs.size=Za oT:=by
  subst hoE hoT
  exact Zg _ (Zd5 rfl rfl)
 have C1:=up _ _ hC
 have N1:((hp.push oT).push oE).Ns Na mN:=let ⟨o,es,ep,q,r⟩:=hn;⟨o,es,ep,up _ _ q,r⟩
 have cC:(Za4 C::bm).contains (.ref C)=Ze:=by simp
 have T1:=T.keeps up
 have made:Zem hp ((hp.push oT).push oE) (hp.objs.size+1) (.ref C) as:=⟨up,Zca (Zao _),hp.objs.size,by rw[gE,hoE],Zca (Zr _),by rw[gT,hoT]⟩
 have gE':=gE
 rw[<- hoE] at gE'
 subst hoE hoT
 unfold Ze1
 repeat (first|with_reducible refine ZbX gE ?_|(with_reducible refine wpAny_isSubtype_exc C1 ?_;rw[cC])|wp_step)
 show Zq _ _ (Zez (.ref C) _) _ _ _
 refine wpAny_typeLookup_tail C1 N1 T1 F.mroIs F.init.lookup ?_
 rw[hi]
 refine Zat (Zh ?_)
 unfold bindSpecial
 refine Zh (wpAny_typeOf (T:="function") ⟨_,up _ _ hf,hfc⟩ ?_)
 rw[if_pos (by decide)]
 refine Zw (Zh (ZP (go _ _ made) (λ r s' hr=>?_) λ _ _ z=>z))
 obtain⟨rfl,hQ⟩:=hr
 wp_walk
 exact hQ
theorem Jny (Fn:ZdY Bn newId inN bmN)(hBn:bmB.contains (.type Bn)=Ze)(F:ZdY B nid initId bmB)(T:OwnTail hp bmB bm){mN:Str->Option Zd}{as:List Zd}{fI:Zi}{oI:Obj}{Q:QvT}
  (hC:hp.get? C=Za (Zd4 nm qn C Na bs bm hdct sn sub ab col dd k0 k1 k2 k3 k5 newId))(hn:hp.Ns Na mN)(hi:mN "__init__"=Za (.ref fI))(hf:hp.get? fI=Za oI)(hfc:oI.cls=.type "function")(hz:as.length<=sizeLine)
  (go:∀h' e,Zem hp h' e (.ref C) as->Zq (Z1 prog w) (A.under (.builtin "type.__call__" ⟨.ref C::as,[]⟩)) (call (.ref fI) (.ref e::as)) (λ r s'=>r=.none/\Q (.ref e) s') E ⟨h',ge,dr,tk,ox⟩) :
  Zq (Z1 prog w) A (call (.ref C) as) Q E ⟨hp,ge,dr,tk,ox⟩:=by
 have g1:=tc_lookup
 have g2:=tc_bind (.ref C)
 have gt:(⟨hp,ge,dr,tk,ox⟩:Zk).TypeIs (.ref C) "type":=⟨_,hC,rfl⟩
 refine Zc0 (codeAny_of_tree ?_)
 show Zq _ _ (callAny (.ref C) _) _ _ _
 repeat (any_goals (first|assumption|with_reducible refine ZbX hC ?_|wp_step))
 exact⟨rfl,codeAny_call_builtin_at (Zc1 _ (by decide +kernel)) entry_typeCall (wpAny_check_type_call_sub hC (Jp8 Fn hBn F T hC hn hi hf hfc hz go))⟩
end
theorem Jyy {K:W.Frag}{h:ZT}{N:Zi}{m:Str->Option Zd}{x:Str}{v:Zd}(I:K.In h)(G:h.Ns N m)(e:W.nsIn K N x=Za (Za v)):m x=Za v:=by
 obtain⟨o,es,ep,go,gd,_,gf⟩:=G
 unfold W.nsIn at e
 split at e
 ·rename_i q
  have z:=I _ _ q
  rw[go] at z
  cases z
  cases gd
  split at e
  ·rename_i en he
   cases e
   rw[<- gf]
   unfold nsFind findBy
   rw[<- Zdr,he]
   rfl
  ·split at e<;>cases e
 ·cases e
def JQ (K:W.Frag)(C f:Zi):Bool:=match K.lookup C with
 | some ⟨.type "type",_,.cls cd,sl⟩=>(match cd.mro,sl.toList with
  | .ref C'::bm,[_,_,_,_,Za (.builtin n),_]=>C'==C&&n=="ValueError.__new__"&&!cd.hasDel&&W.tailIn K bmV bm&&W.nsOkIn K cd.ns&&W.nsIn K cd.ns "__init__"==Za (Za (.ref f))&&(match K.lookup f with|some o=>o.cls==.type "function"|none=>Zj)
  | _,_=>Zj)
 | _=>Zj
theorem JQ.obj {K:W.Frag}{C f:Zi}{h:ZT}(x:JQ K C f=Ze)(I:K.In h):∃bm N nm q bs hdct sn sub ab col dd k0 k1 k2 k3 k5 mN oI,h.get? C=Za (Zd4 nm q C N bs bm hdct sn sub ab col dd k0 k1 k2 k3 k5 "ValueError.__new__")/\h.Ns N mN/\mN "__init__"=Za (.ref f)/\OwnTail h bmV bm/\h.get? f=Za oI/\oI.cls=.type "function":=by
 unfold JQ at x
 split at x
 case h_2=>cases x
 rename_i dd cd sl ho
 split at x
 case h_2=>cases x
 rename_i D bm k0 k1 k2 k3 n k5 em es
 simp only[Zl,beq_iff_eq,ZaH] at x
 obtain⟨⟨⟨⟨⟨⟨e1,e2⟩,e3⟩,e4⟩,e5⟩,e6⟩,e7⟩:=x
 subst e1 e2
 obtain⟨nm,bs,mro,N,qn,hd,sn,sub,ab,col,del⟩:=cd
 have em:mro=.ref D::bm:=em
 have e3:del=Zj:=e3
 subst em e3
 have es:sl=#[k0,k1,k2,k3,Za (.builtin "ValueError.__new__"),k5]:=by
  rw[<- ZcY (xs:=sl),es]
 subst es
 cases lk:K.lookup f with
 | none=>rw[lk] at e7;cases e7
 | some o =>
  rw[lk] at e7
  exact⟨bm,N,nm,qn,bs,hd,sn,sub,ab,col,dd,k0,k1,k2,k3,k5,_,o,I _ _ ho,.of_isNs (W.isNs_of_in I e5),Jyy I (.of_isNs (W.isNs_of_in I e5)) e6,W.tail_of_in I e4,I _ _ lk,beq_iff_eq.mp e7⟩
section
variable {X:Cx}{pj:PnT}{σ:L2.St}{H:Hp}{s:Zk}{k:Nat}{f C:Zi}{fd:Zam}{ps:List Str}{sp:Sp}{dvs:List V}{ds:List Zd}{E:XK}{Q:VK}{us:List Zd}{vs:List V}{W:QvT}
theorem Jpl (xc:JQ X.K C f=Ze)(F:FnOk X.prog X.w X.K X.mg X.base (CXI X.prog X.w) k f fd ps sp)(hr:Room (k+1) X.A)(hb:JL X.K fd ps ds)(hd:Vals dvs ds)(I:Inv X pj σ H s)(r:Vals vs us)(hz:us.length<=sizeLine)
  (h:∀e,H e=Zb->sp (.ref e::(vs++dvs)) (upd H e (ExF e C .none Zb)) (λ v H2=>v=.non/\Q (.ref e) H2) E)
  (hx:∀e s' H',Inv X pj σ H' s'->E e Zb H'->W e s'):Zq (Z1 X.prog X.w) X.A (call (.ref C) us) (EP X pj σ Q) W s:=by
 obtain⟨bm,Na,nm,qn,bs,hdct,sn,sub,ab,col,dd,k0,k1,k2,k3,k5,mN,oI,hCo,hN,hni,T,hf,hfc⟩:=JQ.obj xc I.kIn
 obtain⟨hp,ge,dr,tk,ox⟩:=s
 refine Jny Zcc (by decide) Zcc T hCo hN hni hf hfc hz λ h' e M=>?_
 obtain⟨t,hat,_,_⟩:=M.there
 have he:H e=Zb:=by
  cases z:H e with
  | none=>rfl
  | some u =>
   obtain⟨o,z'⟩:=Jpf (I.hok e u z)
   rw[show hp.get? e=Zb from M.new] at z'
   cases z'
 have kk:∀b u,hp.get? b=Za u->h'.get? b=Za u:=λ b u q=>M.keeps b u q
 have up:∀{b:Zi}{u:HO},H b=Za u->upd H e (ExF e C .none Zb) b=Za u:=λ {b u} q=>by
  rw[Jo (λ z=>by subst z;rw[he] at q;cases q)]
  exact q
 have un:Un X.fs [] H (upd H e (ExF e C .none Zb)) hp h' :=
  ⟨λ b o q _ _ _=>kk b o q,λ b o q _ _ _=>⟨o.slots,kk b o q⟩,λ b o q n _=>by rw[Jo (λ z=>by subst z;rw[show hp.get? b=Zb from M.new] at q;cases q)];exact n,λ b o q _=>⟨o,kk b o q⟩,λ b xs q=>up q,λ b o u q=>up q,λ b ps q=>⟨#[],by rw[up q];simp⟩⟩
 have ok:HOk X.prog X.w (upd H e (ExF e C .none Zb)) h':=λ b u q=>by
  by_cases z:b=e
  ·subst z
   rw[Jy] at q
   cases q
   exact ExF.ok hat rfl rfl rfl rfl rfl
  ·rw[Jo z] at q
   exact(I.hok b u q).stay (λ d v _ p=>kk d v p) (λ d p=>up p) λ d xs p=>up p
 have J:Inv X pj σ (upd H e (ExF e C .none Zb)) ⟨h',ge,dr,tk,ox⟩:=I.un (t':=tk) un ok
 have hq:=h e he
 have ra:Vals (V.ref e::(vs++dvs)) (Za4 e::(us++ds)):=.cons rfl (r.append hd)
 have la:=ra.length
 have lf:=F.len _ _ _ _ hq
 have hl:(Za4 e::us++ds).length=ps.length:=by
  rw[ZH]
  omega
 refine Zc0 (ZbN (F.run _ _ _ _ ⟨.ref e::us,[]⟩ _ _ _ _ (hr.make C us []) (J.env0.make C us []) (hb _ (.ref e::us) J.kIn hl) ra hq) λ res s' q=>?_)
 match res,q with
 | .error x,q =>
  obtain⟨H',I',z⟩:=Jp3 J q
  exact hx x s' H' I' z
 | .ok (.ret u),q =>
  obtain⟨v,H',J3,rv,ev,q3⟩:=J.after q
  subst ev
  exact⟨rv,⟨V.ref e,H',J3,rfl,q3⟩⟩
 | .ok .next,q=>exact Za2 q
 | .ok .brk,q=>exact Za2 q
 | .ok .cont,q=>exact Za2 q
end
def Jla (c:Str)(f:List IV->IH->Res IV)(dvs:List IV)(a:A1):E1:=λ σ h=>(a σ h).bind λ vs h1=>(f (.ref h1.length::(vs++dvs)) (h1++[.exc c []])).bind λ r h2=>match r with
 | .non=>.ok (.ref h1.length) h2
 | _=>.stuck
section
variable {ce:CeT}{X:Cx}{k:Nat}{fa C:Zi}{fd:Zam}{ps:List Str}{f:List IV->IH->Res IV}{dvs:List IV}{ds:List Zd}{x c:Str}{p pos:Pos}{e:Expr}{es:List Expr}{ma:A1}
theorem Jm4 {pj:PnT}{σ:L2.St}{H:Hp}{ι:List Zi}{σi:ISt}{h:IH}{s:Zk}{Q:QvT}{E:QvT}{us:List Zd}{xs:List IV}(xc:JQ X.K C fa=Ze)(F:FnOk X.prog X.w X.K X.mg X.base (CXI X.prog X.w) k fa fd ps (spI ce X.K ps f))(hC:W.nsIn X.K Zm c=Za (Za (.ref C)))(hr:Room (k+1) X.A)(hb:JL X.K fd ps ds)
  (hd:∃vs,Vals vs ds/\∀ι H,RVs X.K ι H dvs vs)(hlen:us.length+ds.length+1=ps.length)(hz:us.length<=sizeLine)(N:Now ce X pj ι σi h σ H s)(r:RUs X.K ι H xs us)
  (K:Kont ce X RU pj ι σi σ H ((f (.ref h.length::(xs++dvs)) (h++[.exc c []])).bind λ r h2=>match r with|.non=>.ok (.ref h.length) h2|_=>.stuck) Q E):Zq (Z1 X.prog X.w) X.A (call (.ref C) us) Q E s:=by
 obtain⟨vs,rv,q⟩:=r
 obtain⟨dv,rd,qd⟩:=hd
 have hl1:=rv.length
 have hl2:=rd.length
 refine ZP (Jpl (Q:=λ z H'=>∀u s',Inv X pj σ H' s'->RelV z u->Q u s') (E:=λ v _ H'=>∀s',Inv X pj σ H' s'->E v s') xc F hr hb rd N.inv rv hz (λ b hx=>⟨by rw[ZC,ZE];omega,?_⟩) λ _ s' _ I' z=>z s' I')
  (λ u s' ⟨z,H',I',r',k'⟩=>k' u s' I' r') λ _ _ z=>z
 obtain⟨R2,n2⟩:=N.rel.alloc (o:=ExF b C .none Zb) (io:=.exc c []) hx ⟨C,.none,Zb,.inl ⟨rfl,rfl⟩,hC,Jy,.inl rfl⟩
 have hat:(ι++[b])[h.length]?=Za b:=by
  rw[<- N.rel.len,Zu (Zr _)]
  simp
 refine⟨ι++[b],h++[.exc c []],.ref h.length::(xs++dvs),R2,⟨_,_,rfl,⟨b,rfl,hat⟩,(RVs.mono n2 _ _ q).append (qd _ _)⟩,?_⟩
 cases e0:f (.ref h.length::(xs++dvs)) (h++[.exc c []]) with
 | ok v h' =>
  rw[e0] at K
  intro z H' ι' R' n' qz
  cases v with
  | non =>
   cases (show z=.non from qz)
   exact⟨rfl,λ u s' I' ru=>K u s' H' ι' ⟨I',R',N.st.mono (n2.trans n')⟩ (n2.trans n') ⟨.ref b,ru,b,rfl,n'.at hat⟩⟩
  | _=>exact Zf K
 | exc n h' =>
  rw[e0] at K
  exact λ a H' ι' R' n' hi s' I'=>K [] a s' H' ι' ⟨by simpa using I',R',N.st.mono (n2.trans n')⟩ (n2.trans n') hi
 | stuck=>rw[e0] at K;exact Zf K
theorem Jvi (xc:JQ X.K C fa=Ze)(kp:W.keepIn X.K (.ref C)=Ze)(F:FnOk X.prog X.w X.K X.mg X.base (CXI X.prog X.w) k fa fd ps (spI ce X.K ps f))(hC:W.nsIn X.K Zm c=Za (Za (.ref C)))(hr:Room (k+1) X.A)(hg:Gl X x)(hm:X.mg x=Za (.ref C))(hb:JL X.K fd ps ds)(hd:∃vs,Vals vs ds/\∀ι H,RVs X.K ι H dvs vs)
  (ha:PAi ce X (e::es) ma)(hlen:∀σ h xs h',ma σ h=.ok xs h'->xs.length+ds.length+1=ps.length)(hz:ps.length<=sizeLine)(hdb:(x==("__debug__":Str))=Zj:=by decide)(he:Z9 (e::es) X.env=(Zj,ZaJ e X.env)::Z9 es X.env:=by rfl)(hpl:(ZaU pos (Z9 es X.env)).any (·.1)=Zj:=by rfl) :
  PEi ce X (.Call (.Name x p) (e::es) [] pos) (Jla c f dvs ma):=by
 intro pj s σ H ι σi h Q E N K
 refine ZQ (QP N.inv hg hm ?_ hdb)
 refine W.callWith_K (h₀:=X.base) N.inv.ok.mod.kin kp ?_ he hpl
 have K':=K
 unfold Jla at K'
 refine ha pos pj s σ H ι σi h _ E N ?_
 cases e0:ma σi h with
 | exc n h'=>rw[e0] at K';exact K'
 | stuck=>rw[e0] at K';exact K'
 | ok xs h' =>
  rw[e0] at K'
  intro us s1 H1 ι1 N1 n1 r1
  have hl:xs.length=us.length:=by
   obtain⟨vs,rv,q⟩:=r1
   rw[<- rv.length,q.length]
  have hn:=hlen σi h xs h' e0
  exact⟨N1.inv.kIn,Jm4 (us:=us) xc F hC hr hb hd (by omega) (by omega) N1 r1 (Kont.mono (r:=(f (IV.ref h'.length::(xs++dvs)) (h'++[.exc c []])).bind λ r h2=>match r with|IV.non=>Res.ok (IV.ref h'.length) h2|_=>Res.stuck) K' n1)⟩
end
section
variable {X:Cx}{pj:PnT}{σ:L2.St}{H:Hp}{s:Zk}{f C e:Zi}{tv:Zd}{d:Option Zi}{us:List Zd}
theorem Jz0 {H:Hp}{a:Zi}{o:HO}(h:H a=Za o):upd H a o=H:=by
 funext b
 by_cases z:b=a
 ·subst z
  rw[Jy,h]
 ·rw[Jo z]
theorem Jri (xc:JQ X.K C f=Ze)(I:Inv X pj σ H s)(ha:H e=Za (ExF e C tv d))(hz:us.length<=sizeLine){Q:QvT}{E:QvT}
  (go:∀s',Inv X pj σ H s'->Q .none s'):Zq (Z1 X.prog X.w) X.A (call (.builtin "ValueError.__init__") (.ref e::us)) Q E s:=by
 obtain⟨bm,Na,nm,qn,bs,hdct,sn,sub,ab,col,dd,k0,k1,k2,k3,k5,mN,oI,hCo,hN,hni,T,hf,hfc⟩:=JQ.obj xc I.kIn
 obtain⟨oe,vs,g1,g2,g3,g4,g5,g6⟩:=ExF.get I.hok ha
 refine Zc0 (Zbi PySem.F.excBase_ValueError.init.plain PySem.F.excBase_ValueError.initEntry ?_)
 obtain⟨hp,ge,dr,tk,ox⟩:=s
 refine wpAny_check_init_subU Zcc T hCo g1 g2 ?_
 unfold Zdl.«BaseException.__init__»
 wp_walk
 have sz:1<vs.size:=(Za5.mp g4).1
 obtain⟨a0,h0⟩:∃a0,vs[0]?=Za a0:=⟨vs[0],Zcm (by omega)⟩
 rw[g3]
 refine Zw ?_
 dsimp only
 rw[h0]
 refine Zw ?_
 have g1':=Zg (h:=hp) { cls:=.type "tuple",data:=.seq us.toArray } g1
 refine Zh (ZbE (i:=0) g1' g3 (by omega) ?_)
 have I1:Inv X pj σ H ⟨hp.push { cls:=.type "tuple",data:=.seq us.toArray },ge,dr,tk,ox⟩:=I.kept (t':=tk) λ b o q=>Zg _ q
 have hd2:=Zax g3 (·.setIfInBounds 0 (Za4 hp.objs.size))
 have he2:=Za3 (Zac (·.setIfInBounds 0 (Za4 hp.objs.size))) g1' (Zby hd2)
 have I2:Inv X pj σ (upd H e (ExF e C tv d)) ⟨(hp.push { cls:=.type "tuple",data:=.seq us.toArray }).update e (Zac (·.setIfInBounds 0 (Za4 hp.objs.size))),ge,dr,tk,ox⟩ :=
  I1.write (x:=e) (e:=e) (t':=tk) (by rw[ha];trivial) (.inl rfl) (λ b u n q=>(Z2 _ _ (ZW n)).trans q) ⟨_,he2⟩
   (ExF.ok he2 ((Zd3 _ _).trans g2) hd2 (by rw[ZbA (by decide)];exact g4) (by rw[ZbA (by decide)];exact g5) ((Jiz _ _).trans g6))
 rw[Jz0 ha] at I2
 have q2:=go _ I2
 cases a0 with
 | ref b=>exact ZbM (Zw q2)
 | _=>exact Zw (Zw q2)
end
structure BasX (K:W.Frag)(D:Zi):Prop where
 sp:W.specialIn K (.ref D) "__getattribute__"=Za (Za (.builtin "type.__getattribute__"))
 rd:W.readsIn K D (.type "type")=Ze
 fc:W.findCls K (.ref D) (.type "type") "__init__"=Za (.val (.builtin "ValueError.__init__"))
def XC (rz:Str->Bool)(a:A1):E1:=λ σ h=>(a σ h).bind λ vs h1=>match vs with
 | [.ref n,.str _]=>(match h1[n]? with
  | some (.exc c _)=>if rz c then .ok .non h1 else .stuck
  | _=>.stuck)
 | _=>.stuck
section
variable {ce:CeT}{X:Cx}{D:Zi}{x:Str}{p pos apos:Pos}{e:Expr}{es:List Expr}{ma:A1}{pl:Sem Bool}
theorem Jva {rz:Str->Bool}(hx:∀c C,rz c=Ze->W.nsIn X.K Zm c=Za (Za (.ref C))->∃f,JQ X.K C f=Ze)(hg:Gl X x)(hm:X.mg x=Za (.ref D))(B:BasX X.K D)
  (ha:PAi ce X (e::es) ma)(hdb:(x==("__debug__":Str))=Zj:=by decide)(he:Z9 (e::es) X.env=(Zj,ZaJ e X.env)::Z9 es X.env:=by rfl)(hpl:(ZaU pos (Z9 es X.env)).any (·.1)=Zj:=by rfl)
  (ht:ZaJ (.Call (.Attribute (.Name x p) "__init__" apos) (e::es) [] pos) X.env=(do
   let ov<-ZaJ (.Name x p) X.env
   Ze8 apos.atName
   let (f,first)<-Zdk [ov] (ZdG ov "__init__" pl)
   callWith pos f first (ZaU pos (Z9 (e::es) X.env)) (ZdO pos (Zc5 [] X.env))):=by rfl) :
  PEi ce X (.Call (.Attribute (.Name x p) "__init__" apos) (e::es) [] pos) (XC rz ma):=by
 intro pj s σ H ι σi h Q E N K
 refine W.methodCall_KW (pl:=pl) (QP N.inv hg hm ?_ hdb) ht
 refine W.method_cls N.inv.kIn B.sp (W.cls_value N.inv.kIn B.rd B.fc rfl ?_)
 have N':Now ce X pj ι σi h σ H { s with toks:=s.toks+1 }:=⟨N.inv.tok _,N.rel,N.st⟩
 refine Zbd ?_ he hpl
 refine(ha pos).run N' K λ xs h1 us s1 H1 ι1 N1 n1 r1 K1=>?_
 obtain⟨vs,rv,qs⟩:=r1
 by_cases hv:∃n y,xs=[.ref n,.str y]
 ·obtain⟨n,y,rfl⟩:=hv
  obtain⟨w1,w2,rfl,⟨a,rfl,hi⟩,q2⟩:=qs.two_of
  obtain⟨u1,u2,rfl,p1,p2⟩:=rv.two
  cases p1
  dsimp only at K1
  cases hj:h1[n]? with
  | none=>rw[hj] at K1;exact Zf K1
  | some ob =>
   rw[hj] at K1
   cases ob with
   | exc c fs =>
    dsimp only at K1
    split at K1
    ·rename_i hr
     obtain⟨C,tv,d,fe,hC,hH,ht'⟩:=QF N1.rel hj hi
     obtain⟨f,xc⟩:=hx c C hr hC
     have sb:1<=sizeLine:=by decide
     exact Jri xc N1.inv hH (by simpa using sb) λ s' I'=>K1 _ s' H1 ι1 ⟨I',N1.rel,N1.st⟩ .refl ⟨.non,rfl,rfl⟩
    ·exact Zf K1
   | _=>exact Zf K1
 ·refine(show False from ?_).elim
  split at K1
  ·exact hv ⟨_,_,rfl⟩
  ·exact K1
end
def Jld:List Zd->Bool
 | .ref _::r=>Jld r
 | l=>l==bmV
theorem Jhf (self:Zd):∀{l:List Zd},Jld l=Ze->refuseLoop self "__setattr__" l=pure ()
 | .ref c::r,e=>by
  rw[refuseLoop_ref]
  exact Jhf self (l:=r) e
 | [],e=>by cases e
 | .type n::r,e=>by
  rw[show ZbZ n::r=bmV from beq_iff_eq.mp e]
  exact PySem.F.store_ValueError.passes self
 | .none::_,e=>absurd (beq_iff_eq.mp e) nofun
 | .bool _::_,e=>absurd (beq_iff_eq.mp e) nofun
 | .int _ _::_,e=>absurd (beq_iff_eq.mp e) nofun
 | .str _ _::_,e=>absurd (beq_iff_eq.mp e) nofun
 | .float _ _::_,e=>absurd (beq_iff_eq.mp e) nofun
 | .bytes _ _::_,e=>absurd (beq_iff_eq.mp e) nofun
 | .ellipsis::_,e=>absurd (beq_iff_eq.mp e) nofun
 | .notImplemented::_,e=>absurd (beq_iff_eq.mp e) nofun
 | .builtin _::_,e=>absurd (beq_iff_eq.mp e) nofun
theorem Joc:∀{l:List Zd},Jld l=Ze->l.contains (.type "object")=Ze
 | .ref c::r,e=>by rw[List.contains_cons,Joc (l:=r) e,Bool.or_true]
 | [],e=>by cases e
 | .type n::r,e=>by rw[show ZbZ n::r=bmV from beq_iff_eq.mp e];decide
 | .none::_,e=>absurd (beq_iff_eq.mp e) nofun
 | .bool _::_,e=>absurd (beq_iff_eq.mp e) nofun
 | .int _ _::_,e=>absurd (beq_iff_eq.mp e) nofun
 | .str _ _::_,e=>absurd (beq_iff_eq.mp e) nofun
 | .float _ _::_,e=>absurd (beq_iff_eq.mp e) nofun
 | .bytes _ _::_,e=>absurd (beq_iff_eq.mp e) nofun
 | .ellipsis::_,e=>absurd (beq_iff_eq.mp e) nofun
 | .notImplemented::_,e=>absurd (beq_iff_eq.mp e) nofun
 | .builtin _::_,e=>absurd (beq_iff_eq.mp e) nofun
section
variable {prog:ZA}{w:ZM}{A:ZG}{K:W.Frag}{C x:Zi}{s:Zk}{R:Zd8->Zk->Prop}{ox:Obj}{name:Str}{v:Zd}
structure StoX (K:W.Frag)(C:Zi)(name:Str):Prop where
 line:(W.clsIn K C).any (λ cd=>Jld cd.mro&&cd.hasDict)=Ze
 free:W.takerIn K C name=Za Zb
 way:W.findIn K (.ref C) "__setattr__"=Za (Za (.builtin "object.__setattr__"))
theorem Jrk (S:StoX K C name){tk:Tok}(X:K.In s.heap)(I:W.InstAt s.heap x ox C Zb)
  (h:∀b,Zq (Z1 prog w) A.in1 (Builtin.ObjectAttr.storeInOwnDict (.ref x) (.ref C) (.str name tk) name v b) (λ fin s'=>match fin with|.done f=>R (.ok f) s'|.again c=>c.quiet=Ze/\ZbW (Z1 prog w) A c R s') (λ e s'=>R (.error e) s') s) :
  ZbW (Z1 prog w) A (.call (.builtin "object.__setattr__") ⟨[.ref x,.str name tk,v],[]⟩) R s:=by
 obtain⟨cd,hc,hq⟩:=W.any_some S.line
 obtain⟨ho,hdc⟩:=Zb4.mp hq
 have ne:cd.mro.isEmpty=Zj:=by
  cases q:cd.mro with
  | cons _ _=>rfl
  | nil=>rw[q] at ho;cases ho
 have hob:W.Looks (Z1 prog w) s.heap (Ze1 (.ref x) (.type "object")) Ze :=
  I.type.andThen (W.looks_mroIn X (by
   unfold W.mroIn
   rw[hc,Zbw,if_neg (by rw[ne];decide),Joc ho]))
 have SO:=PySem.F.store_object
 obtain⟨attr,ha,hr⟩:=ZdQ.mp S.free
 have st:W.Looks (Z1 prog w) s.heap (Builtin.ObjectAttr.storeTaker? attr) Zb:=by
  cases attr with
  | some a =>
   obtain⟨b,hb,e⟩:=Z5.mp hr
   refine(W.looks_takesIn X hb).andThen ?_
   cases b with
   | false=>exact .now
   | true=>cases e
  | none=>exact .now
 refine Zbi SO.slot.plain SO.entry ?_
 refine @W.check_slot (Z1 prog w) _ _ s "object.__setattr__" "object" "__setattr__" (.ref x) [.str name tk,v] [] _ SO.kind SO.split hob (SO.args _ _ _) ?_
 rw[W.osa_eq,refuse_eq]
 have mr:W.Looks (Z1 prog w) s.heap (mroOf (.ref C)) cd.mro:=(W.looks_clsIn X hc).andThen .now
 refine Zh (Zh (I.type.here (Zh (mr.here ?_))))
 rw[Jhf _ ho]
 exact Zw (Zh (I.type.here (Zh ((W.looks_findIn X ha).here (Zh (st.here (h _)))))))
end
section
variable {prog:ZA}{w:ZM}{A:ZG}{K:W.Frag}{C x:Zi}{s:Zk}{ox:Obj}{name:Str}{v:Zd}
theorem Jod (S:StoX K C name){Q:Unit->Zk->Prop}{E:QvT}(X:K.In s.heap)(I:W.InstAt s.heap x ox C Zb)(hd:ox.dict=Zb)
  (go:∀h' t',h'.get? x=Za { ox with dict:=Za s.heap.objs.size }->h'.Ns1 s.heap.objs.size (λ y=>if y=name then Za v else Zb)->(∀b o,b≠x->s.heap.get? b=Za o->h'.get? b=Za o)->Q () { s with heap:=h',toks:=t' }) :
  Zq (Z1 prog w) A (setAttr (.ref x) name v) Q E s:=by
 refine W.set_plain X I S.way (Jrk (s:={ s with toks:=s.toks+1 }) S X I λ b=>?_)
 obtain⟨cd,hc,hq⟩:=W.any_some S.line
 have hdc:=(Zb4.mp hq).2
 obtain⟨hx,hcl,hn,-⟩:=I
 obtain⟨oc,odi,oda,osl⟩:=ox
 dsimp only at hcl hd go
 subst hcl hd
 obtain⟨hp,ge,dr,tk,os⟩:=s
 dsimp only at hx X go ⊢
 refine Zh (Zw (Zh (Zh (Zei hx (Zh ((W.looks_clsIn X hc).here ?_))))))
 rw[hdc]
 have fr:=(Heap.get?_some_iff.mp hx).2
 have lt:x≠hp.objs.size:=ZD (Zx hx)
 have h1:=Zg (h:=hp) { cls:=.type "dict",data:=.dict #[] } hx
 rw[if_neg (by decide)]
 show Zq _ _ (if (!true||!typeHasDict (.ref C))=Ze then pure Zb else match oda with|Data.cls c=>pure Zb|_=>(alloc { cls:=ZbZ "dict",data:=Data.dict #[] }>>=λ d=>update x (λ o=>{ o with dict:=Za d })>>=λ _=>dictMade (.ref C) x d)) _ _ _
 rw[if_neg (by simp[typeHasDict])]
 split
 ·cases hn
 ·refine Zh (wpAny_alloc' (Zh (wpAny_update' h1 (Zw ?_))))
  have at':=(Heap.get?_update_ne (hp.push { cls:=.type "dict",data:=.dict #[] }) hp.objs.size x (λ o:Obj=>{ o with dict:=Za hp.objs.size }) lt.symm).trans (Zd5 rfl rfl)
  refine Zh (Zw (Zh (wpAny_nsSet1 (Heap.Ns1.of_empty ⟨_,#[],_,at',rfl,λ e z=>absurd z (by simp),λ _=>rfl⟩) λ h' n' sb=>?_)))
  obtain⟨oD,es,ep,g,gd,gl⟩:=n'.count (Within.cons name v Within.nil)
  refine Zh (wpAny_lookBehind g (by rw[gd];exact pastItsLine_dict (Zah gl (Nat.le_add_left 1 _))) (Zw ?_))
  refine go h' _ ?_ n' λ b o nb q=>(sb.2 b (ZD (Zx q))).trans ((Heap.get?_update_ne _ _ _ _ nb).trans (Zg _ q))
  refine(sb.2 x lt).trans (Za3 _ h1 ?_)
  revert fr
  cases oda<;>exact id
end
theorem Jsk {h:ZT}{a:Zi}{m:Str->Option Zd}{f:Str}{v:Zd}(n:h.Ns1 a m)(e:m f=Za v):∃o,h.get? a=Za o/\o.isFreed=Zj/\W.lookIn f o=Za (Za v):=by
 obtain⟨o,es,ep,g,gd,_,_,gm⟩:=n
 refine⟨o,g,(Heap.get?_some_iff.mp g).2,?_⟩
 have z:=gm f
 rw[e] at z
 unfold nsFind findBy at z
 obtain⟨en,q1,q2⟩:=Z5.mp z
 unfold W.lookIn
 rw[gd]
 dsimp only
 rw[Zdr,q1]
 exact congrArg (λ u=>Za (Za u)) q2
def xvOk:IV->Bool
 | .int _=>Ze
 | .ref _=>Ze
 | _=>Zj
def XS (st:Str->Bool)(f:Str)(o e:E1):S1:=λ σ h=>rS σ (e σ h) λ v h1=>rS σ (o σ h1) λ ov h2=>match ov with
 | .ref i=>(match h2[i]? with
  | some (.exc c [])=>if st c&&xvOk v then .next σ (h2.set i (.exc c [(f,v)])) else .stuck
  | _=>.stuck)
 | _=>.stuck
section
variable {ce:CeT}{X:Cx}{o value:Expr}{mo mv:E1}{pos pos':Pos}{fl:Str}
theorem Juy {pj:PnT}{ι:List Zi}{σi:ISt}{h:IH}{σ:L2.St}{H:Hp}{s:Zk}{n:Nat}{a C:Zi}{c:Str}{y:IV}{u:Zd}{Q:Unit->Zk->Prop}{E:QvT}
  (hu:XV ι y u)(S:StoX X.K C fl)(hC:W.nsIn X.K Zm c=Za (Za (.ref C)))(N:Now ce X pj ι σi h σ H s)(hj:h[n]?=Za (.exc c []))(hi:ι[n]?=Za a)
  (go:∀s' H',Now ce X pj ι σi (h.set n (.exc c [(fl,y)])) σ H' s'->Nxt ι H ι H'->Q () s') :
  Zq (Z1 X.prog X.w) X.A (setAttr (.ref a) fl u) Q E s:=by
 obtain⟨C',tv,d,fe,hC',ha,ht⟩:=QF N.rel hj hi
 rw[hC] at hC'
 cases hC'
 obtain⟨oe,vs,g1,g2,g3,g4,g5,g6⟩:=ExF.get N.inv.hok ha
 obtain rfl:d=Zb:=by
  rcases fe with⟨_,q⟩|⟨_,_,_,_,_,q,_⟩
  ·exact q
  ·cases q
 refine Jod S N.inv.kIn ⟨g1,g2,by unfold W.notCls;rw[g3],by rw[g6];trivial⟩ g6 λ h' t' x1 x2 x3=>?_
 obtain⟨oD,d1,d2,d3⟩:=Jsk x2 (if_pos rfl)
 have hn:H s.heap.objs.size=Zb:=N.inv.hok.fresh (Zr _)
 have ne:s.heap.objs.size≠a:=λ z=>by rw[z,ha] at hn;cases hn
 have dl:(s.heap.push oD).get? s.heap.objs.size=Za oD:=Zd5 rfl d2
 have I1:Inv X pj σ (upd H s.heap.objs.size (.frz oD (.own 0))) { s with heap:=s.heap.push oD,toks:=t' } :=
  N.inv.laid (λ b u q=>Zg _ q) (Zr _) ⟨dl,⟨_,dl⟩⟩
 obtain⟨R1,n1⟩:=N.rel.grow (o:=.frz oD (.own 0)) hn
 have ha1:upd H s.heap.objs.size (.frz oD (.own 0)) a=Za (ExF a C tv Zb):=by rw[Jo ne.symm];exact ha
 have mu:Mut (upd H s.heap.objs.size (.frz oD (.own 0)) a):=by rw[ha1];trivial
 obtain⟨R2,n2⟩:=R1.write hi ha1 mu (o:=ExF a C tv (Za s.heap.objs.size)) (io:=.exc c [(fl,y)])
  ⟨C,tv,Za s.heap.objs.size,.inr ⟨fl,y,s.heap.objs.size,oD,u,rfl,rfl,by rw[Jo ne,Jy],d3,hu⟩,hC,Jy,ht.mono λ b o u q=>by
   rw[Jo (λ z=>by subst z;rw[ha] at q;cases q),Jo (λ z=>by subst z;rw[hn] at q;cases q)]
   exact q⟩
 have I2:Inv X pj σ (upd (upd H s.heap.objs.size (.frz oD (.own 0))) a (ExF a C tv (Za s.heap.objs.size))) { s with heap:=h',toks:=t' } :=
  I1.write (x:=a) (e:=a) (t':=t') mu (.inl rfl) (λ b u nb q=>by
   by_cases z:b=s.heap.objs.size
   ·subst z
    rw[dl] at q
    cases q
    exact d1
   ·exact x3 b u nb ((Heap.get?_push_ne _ b _ z).symm.trans q)) ⟨_,x1⟩ (ExF.ok x1 g2 g3 g4 g5 rfl)
 exact go _ _ ⟨I2,R2,N.st.mono (n1.trans n2)⟩ (n1.trans n2)
theorem Jzn {st:Str->Bool}(ho:PEi ce X o mo)(hv:PEi ce X value mv)(hx:∀c C,st c=Ze->W.nsIn X.K Zm c=Za (Za (.ref C))->StoX X.K C fl)(hs:Zc4 value (Za (.Attribute o fl pos')) pos.line X.env=pure Zj:=by rfl) :
  PS1 ce X (.Assign [.Attribute o fl pos'] value pos) (XS st fl mo mv):=by
 intro pj s σ H ι σi h Q E N K
 refine ZcH (krun hv N K λ v h1 u s1 H1 ι1 N1 n1 r1 K1=>krun ho N1 K1 λ ov h2 w s2 H2 ι2 N2 n2 r2 K2=>?_) hs
 cases ov with
 | ref i =>
  obtain⟨w,rw',a,e1,hi⟩:=r2
  subst e1
  cases rw'
  dsimp only at K2
  cases hh:h2[i]? with
  | none=>rw[hh] at K2;exact Zf K2
  | some ob =>
   rw[hh] at K2
   by_cases hb:∃c,ob=.exc c []
   ·obtain⟨c,rfl⟩:=hb
    dsimp only at K2
    split at K2
    ·rename_i hz
     obtain⟨hz,hv⟩:=Zb4.mp hz
     obtain⟨C,_,_,_,hC,_⟩:=QF N2.rel hh hi
     refine Juy ?_ (hx c C hz hC) hC N2 hh hi λ s3 H3 N3 n3=>K2 s3 σ H3 ι2 N3 n3
     obtain⟨w1,rw1,e2⟩:=r1
     cases v with
     | int y=>cases e2;exact rw1
     | ref j =>
      obtain⟨b,rfl,q⟩:=e2
      obtain⟨⟨m,rfl⟩,_⟩:=n2
      exact⟨b,rw1,by rw[Z7 (Zn.mp q).1];exact q⟩
     | _=>cases hv
    ·exact Zf K2
   ·cases ob with
    | exc c fs=>cases fs with
     | nil=>exact absurd ⟨c,rfl⟩ hb
     | cons _ _=>exact Zf K2
    | _=>exact Zf K2
 | _=>exact Zf K2
end
end L3
namespace L3
open PySem PySem.Spec PySem.Calls PyProof.Rows L2
section
variable {prog:ZA}{w:ZM}{A:ZG}{E:QvT}{s:Zk}{K:W.Frag}{x D:Zi}{ox od:Obj}{f:Str}{v:Zd}
theorem Jtg {tk:Tok}{Q:Fin->Zk->Prop}(X:K.In s.heap)(I:W.InstAt s.heap x ox D (Za od))(hh:W.hasDictIn K D=Ze)(hf:W.findIn K (.ref D) f=Za Zb)(hl:W.lookIn f od=Za (Za v))
  (hq:Q (.done (.ret v)) s):Zq (Z1 prog w) A (Zdl.«object.__getattribute__» ⟨[.ref x,.str f tk],[]⟩) Q E s:=by
 obtain⟨cd,hc,hd⟩:=W.any_some hh
 have L0:W.Looks (Z1 prog w) s.heap (ZdT (.ref x)) (.ref D):=I.type
 have L2:=W.looks_findIn (M:=Z1 prog w) X hf
 have L3:=W.looks_own (M:=Z1 prog w) (name:=f) (r:=Za v) X I hc (by unfold W.ownOf;rw[if_pos hd];exact hl)
 obtain⟨hp,g,d,t,os⟩:=s
 dsimp only at L0 L2 L3
 repeat (any_goals (first|assumption|with_reducible refine L0.at ?_|with_reducible refine L2.at ?_|with_reducible refine L3.at ?_|wp_step))
theorem J12 {b:Bool}{tk:Tok}{Q:QvT}(e:ExI K D)(X:K.In s.heap)(I:W.InstAt s.heap x ox D (Za od))(hf:W.findIn K (.ref D) f=Za Zb)(hl:W.lookIn f od=Za (Za v))(hv:∀id,v≠.builtin id)
  (hq:Q v s):Zq (Z1 prog w) A (getAttrBy (.ref x) (.str f tk) Ze b) Q E s:=by
 have L0:W.Looks (Z1 prog w) s.heap (ZdT (.ref x)) (.ref D):=I.type
 have L1:=W.looks_findIn (M:=Z1 prog w) X e.ga
 have L4:=W.looks_findIn (M:=Z1 prog w) X e.gn
 obtain⟨hp,g,d,t,os⟩:=s
 dsimp only at L0 L1 L4
 have f3:=F.attr_ValueError.ga.bind (.ref x)
 have n2:(Zbt "BaseException.__getattribute__"==Zbt "object.__getattribute__")=Zj:=by decide +kernel
 have n1:(onTheHeap (Za4 D)&&Zbt "BaseException.__getattribute__"==Zbt "object.__getattribute__")=Zj:=by rw[n2];rfl
 have n3:(b&&onTheHeap (Zbt "BaseException.__getattribute__"))=Zj:=by cases b<;>rfl
 repeat (any_goals (first|assumption|with_reducible refine L0.at ?_|with_reducible refine L1.at ?_|with_reducible refine L4.at ?_|wp_step))
 refine Zbi F.attr_ValueError.ga.plain F.entry_bexc_ga (Jmb (s:=⟨hp,g,d,t,os⟩) X I.at_ I.cls e.mb (Jtg (s:=⟨hp,g,d,t,os⟩) X I e.hd hf hl ?_))
 repeat (any_goals (first|assumption|wp_step))
 split
 ·exact absurd rfl (hv _)
 ·exact Zw hq
theorem Jxg {b:Bool}{Q:QvT}(e:ExI K D)(X:K.In s.heap)(I:W.InstAt s.heap x ox D (Za od))(hf:W.findIn K (.ref D) f=Za Zb)(hl:W.lookIn f od=Za (Za v))(hv:∀id,v≠.builtin id)
  (hq:Q v { s with toks:=s.toks+1 }):Zq (Z1 prog w) A (getAttr (.ref x) f b) Q E s :=
 Zh (wpAny_mkText (J12 (s:={ s with toks:=s.toks+1 }) e X I hf hl hv hq))
theorem XV.nb {ι:List Zi}{y:IV}{u:Zd}(h:XV ι y u):∀id,u≠.builtin id:=by
 cases y with
 | int i=>obtain⟨t,rfl⟩:=h;exact nofun
 | ref j=>obtain⟨b,rfl,_⟩:=h;exact nofun
 | _=>cases h
end
def VW (xa:Str->Bool)(f:Str)(o:E1):E1:=λ σ h=>(o σ h).bind λ v h1=>match v with
 | .ref i=>(match h1[i]? with
  | some (.exc c [(g,y)])=>if xa c&&decide (g=f) then .ok y h1 else .stuck
  | some (.hld c [(g,y)])=>if xa c&&decide (g=f) then .ok y h1 else .stuck
  | _=>.stuck)
 | _=>.stuck
section
variable {ce:CeT}{X:Cx}{o:Expr}{mo:E1}{pos:Pos}{fl:Str}
theorem Jx4 {xa:Str->Bool}(ho:PEi ce X o mo)(hx:∀c C,xa c=Ze->W.nsIn X.K Zm c=Za (Za (.ref C))->ExI X.K C/\W.findIn X.K (.ref C) fl=Za Zb)(hb:Zcs o fl X.env (ZaJ o X.env)=ZaJ o X.env:=by rfl):PEi ce X (.Attribute o fl pos) (VW xa fl mo):=by
 intro pj s σ H ι σi h Q E N K
 refine Jnq hb (ho.run N K λ v h1 u s1 H1 ι1 N1 n1 r1 K1=>?_)
 have key:∀{i a:Nat}{c:Str}{C:Zi}{oe:Obj}{vs:Array Zd}{g:Str}{y:IV},xa c=Ze->g=fl->W.nsIn X.K Zm c=Za (Za (.ref C))->s1.heap.get? a=Za oe->oe.cls=.ref C->oe.data=.fields vs->XdOk ι1 H1 oe.dict [(g,y)] ->
   (∀t,XV ι1 y t->Q t { s1 with toks:=s1.toks+1 })->Zq (Z1 X.prog X.w) X.A (getAttr (.ref a) fl Ze) Q E s1:=by
  intro i a c C oe vs g y hc hg hC g1 g2 g3 fe k
  subst hg
  obtain⟨ei,hf⟩:=hx c C hc hC
  rcases fe with⟨q,_⟩|⟨f',i',dx,od,t,q,qd,qH,ql,qx⟩
  ·cases q
  ·cases q
   have gd:=(N1.inv.hok dx _ qH).1
   exact Jxg (od:=od) ei N1.inv.kIn ⟨g1,g2,by unfold W.notCls;rw[g3],by rw[qd];exact gd⟩ hf ql qx.nb (k t qx)
 cases v with
 | ref i =>
  obtain⟨wv,rw',a,e1,hi⟩:=r1
  subst e1
  cases rw'
  dsimp only at K1
  cases hh:h1[i]? with
  | none=>rw[hh] at K1;exact Zf K1
  | some ob =>
   rw[hh] at K1
   have out:∀fs:List (Str×IV),(∃g y,fs=[(g,y)])∨¬ ∃g y,fs=[(g,y)]:=λ _=>Ze9 _
   have rep:∀{y:IV}{t:Zd}{H2:Hp},XV ι1 y t->RU X.K ι1 H2 y t:=by
    intro y t H2 q
    cases y with
    | int i=>exact⟨.int i,q,rfl⟩
    | ref j=>obtain⟨b,rfl,q⟩:=q;exact⟨.ref b,rfl,b,rfl,q⟩
    | _=>cases q
   cases ob with
   | exc c fs =>
    rcases out fs with⟨g,y,rfl⟩|no
    ·dsimp only at K1
     split at K1
     ·rename_i hz
      obtain⟨hc,hg⟩:=Zb4.mp hz
      obtain⟨C,tv,d,fe,hC,ha,_⟩:=QF N1.rel hh hi
      obtain⟨oe,vs,g1,g2,g3,_,_,g6⟩:=ExF.get N1.inv.hok ha
      rw[<- g6] at fe
      exact key (i:=i) hc (of_decide_eq_true hg) hC g1 g2 g3 fe λ t q=>K1 t _ H1 ι1 ⟨N1.inv.tok _,N1.rel,N1.st⟩ .refl (rep q)
     ·exact Zf K1
    ·match fs,no,K1 with
     | [],_,K1=>exact Zf K1
     | _::_::_,_,K1=>exact Zf K1
     | [(g,z)],no,K1=>exact absurd ⟨g,z,rfl⟩ no
   | hld c fs =>
    rcases out fs with⟨g,y,rfl⟩|no
    ·dsimp only at K1
     split at K1
     ·rename_i hz
      obtain⟨hc,hg⟩:=Zb4.mp hz
      obtain⟨C,oe,u,vs,fe,hC,ha,g2,g3,_⟩:=QF N1.rel hh hi
      exact key (i:=i) hc (of_decide_eq_true hg) hC (N1.inv.hok a _ ha).1 g2 g3 fe λ t q=>K1 t _ H1 ι1 ⟨N1.inv.tok _,N1.rel,N1.st⟩ .refl (rep q)
     ·exact Zf K1
    ·match fs,no,K1 with
     | [],_,K1=>exact Zf K1
     | _::_::_,_,K1=>exact Zf K1
     | [(g,z)],no,K1=>exact absurd ⟨g,z,rfl⟩ no
   | _=>exact Zf K1
 | _=>exact Zf K1
end
section
variable {ce:CeT}{X:Cx}
end
end L3
namespace L3
open PySem PySem.Spec PyProof.Rows L2
def PEw (ce:CeT)(X:Cx)(a:Zi)(n:Nat)(e:Expr)(m:E1):Prop :=
 ∀(pj:PnT)(s:Zk)(σ:L2.St)(H:Hp)(ι:List Zi)(σi:ISt)(h:IH)(Q:QvT)(E:QvT),Now ce (Jj X a) pj ι σi h σ H s->ι[n]?=Za a ->
  Kont ce (Jj X a) RU pj ι σi σ H (m σi h) Q E->Zq (Z1 X.prog X.w) (Jj X a).A (ZaJ e X.env) Q E s
theorem PEi.w {ce:CeT}{X:Cx}{a:Zi}{n:Nat}{e:Expr}{m:E1}(p:PEi ce (Jj X a) e m):PEw ce X a n e m:=λ pj s σ H ι σi h Q E N _ K=>p pj s σ H ι σi h Q E N K
section
variable {ce:CeT}{X:Cx}
end
section
variable {α β γ δ:Type}{ce:CeT}{X:Cx}{R:REL α β}{R':REL γ δ}{a:Zi}{n:Nat}
def PXw (ce:CeT)(X:Cx)(a:Zi)(n:Nat)(R:REL α β)(t:Sem β)(m:ISt->IH->Res α):Prop :=
 ∀(pj:PnT)(s:Zk)(σ:L2.St)(H:Hp)(ι:List Zi)(σi:ISt)(h:IH)(Q:β->Zk->Prop)(E:QvT),Now ce X pj ι σi h σ H s->ι[n]?=Za a->Kont ce X R pj ι σi σ H (m σi h) Q E->Zq (Z1 X.prog X.w) X.A t Q E s
def PSw (ce:CeT)(X:Cx)(a:Zi)(n:Nat)(t:Sem Flow)(m:S1):Prop :=
 ∀(pj:PnT)(s:Zk)(σ:L2.St)(H:Hp)(ι:List Zi)(σi:ISt)(h:IH)(Q:Flow->Zk->Prop)(E:QvT),Now ce X pj ι σi h σ H s->ι[n]?=Za a->JA ce X pj ι H (m σi h) Q E->Zq (Z1 X.prog X.w) X.A t Q E s
theorem PX.w {t:Sem β}{m:ISt->IH->Res α}(p:PX ce X R t m):PXw ce X a n R t m:=λ pj s σ H ι σi h Q E N _ K=>p pj s σ H ι σi h Q E N K
theorem PS2.w {l:List Zbv}{m:S1}(p:PS2 ce X l m):PSw ce X a n (execs l X.env) m:=λ pj s σ H ι σi h Q E N _ K=>p pj s σ H ι σi h Q E N K
theorem PS1.w {l:Zbv}{m:S1}(p:PS1 ce X l m):PSw ce X a n (exec l X.env) m:=λ pj s σ H ι σi h Q E N _ K=>p pj s σ H ι σi h Q E N K
theorem PXw.run {t:Sem β}{m:ISt->IH->Res α}(p:PXw ce X a n R t m){pj:PnT}{ι:List Zi}{σi:ISt}{σ:L2.St}{H:Hp}{s:Zk}{h:IH}(N:Now ce X pj ι σi h σ H s)(hi:ι[n]?=Za a){g:α->IH->Res γ}{Q:δ->Zk->Prop}{E:QvT}{Q1:β->Zk->Prop}
  (K:Kont ce X R' pj ι σi σ H ((m σi h).bind g) Q E)
  (step:∀x h1 u s1 H1 ι1,Now ce X pj ι1 σi h1 σ H1 s1->ι1[n]?=Za a->R X.K ι1 H1 x u->Kont ce X R' pj ι1 σi σ H1 (g x h1) Q E->Q1 u s1):Zq (Z1 X.prog X.w) X.A t Q1 E s:=by
 refine p pj s σ H ι σi h Q1 E N hi ?_
 cases e:m σi h with
 | stuck=>rw[e] at K;exact K
 | exc _ h'=>rw[e] at K;exact K
 | ok v h' =>
  rw[e] at K
  exact λ u s' H' ι' N' n' r=>step v h' u s' H' ι' N' (n'.at hi) r (Kont.mono (r:=g v h') K n')
variable {b c:Expr}{pos:Pos}{rest:List Expr}{ta tb:T1}{mb:E1}
end
section
variable {ce:CeT}{X:Cx}
section
variable {A:ZG}{R:Zd8->Zk->Prop}{Q:QvT}{E:QvT}{pj:PnT}{σi:ISt}{σ:L2.St}{G:Hp->Prop}{fq:Zi}{mk:IV->IH->Res IV}{gt:IV->IV->Option Bool}{i n:Nat}{l I C:Zi}{kw:List (Str×Zd)}
end
end
abbrev ivl (l:List (Int×Tok)):List Zd:=l.map λ p=>.int p.1 p.2
section
open PySem.AutoSeq1 (wpAny_loadPart')
open PySem.MeetsSeq PySem.MeetsSeq2 PySem.MeetsSeq3 PySem.SeqRoads2
end
section
variable {ce:CeT}{X:Cx}
end
def Jni (h:ZT)(wrs:List Zi)(C:Zi)(k:Nat)(v:Zd)(ns:List Int):Prop:=∃a l,v=.ref a/\a∉wrs/\a≠C/\IsTup h a (ivl l).toArray/\l.map (·.1)=ns/\l.length=k
theorem Jni.keeps {h h':ZT}{wrs:List Zi}{C:Zi}{k:Nat}{v:Zd}{ns:List Int}(t:Jni h wrs C k v ns)(q:∀a o,a∉wrs->a≠C->h.get? a=Za o->h'.get? a=Za o):Jni h' wrs C k v ns:=by
 obtain⟨a,l,e,n1,n2,⟨o,ho,r⟩,e2,e3⟩:=t
 exact⟨a,l,e,n1,n2,⟨o,q a o n1 n2 ho,r⟩,e2,e3⟩
section
variable {pr:ZA}{wd:ZM}{B:ZG}{R:Zd8->Zk->Prop}{it:Zi}{fps wrs:List Zi}{n:Nat}{St:Nat->ZT->Prop}
end
section
variable {pr:ZA}{wd:ZM}{B:ZG}{E:QvT}{z:Zk}{l:Zi}{us:List Zd}{k:Nat}{f:Nat->List Int}{Q:QvT}
end
section
variable {ce:CeT}{X:Cx}
end
end L3
namespace L3
open PySem PySem.Spec PyProof.Rows L2 PySem.W
def kRun {α:Type}(lt:Nat->Nat->Bool):KasT α->α
 | .ret a=>a
 | .ask i j k=>kRun lt (k (lt i j))
def Asks {α:Type}(n:Nat)(P:α->Prop):KasT α->Prop
 | .ret a=>P a
 | .ask i j k=>i<n/\j<n/\∀b,Asks n P (k b)
theorem Asks.mono {α:Type}{n:Nat}{P P':α->Prop}(f:∀a,P a->P' a):∀{t:KasT α},Asks n P t->Asks n P' t
 | .ret _,h=>f _ h
 | .ask _ _ _,⟨h1,h2,h3⟩=>⟨h1,h2,λ b=>Asks.mono f (h3 b)⟩
theorem Asks.bind {α β:Type}{n:Nat}{P:α->Prop}{P':β->Prop}{f:α->KasT β}(hf:∀a,P a->Asks n P' (f a)):∀{t:KasT α},Asks n P t->Asks n P' (t.bind f)
 | .ret _,h=>hf _ h
 | .ask _ _ _,⟨h1,h2,h3⟩=>⟨h1,h2,λ b=>Asks.bind hf (h3 b)⟩
theorem Asks.run {α:Type}{n:Nat}{P:α->Prop}{lt:Nat->Nat->Bool}:∀{t:KasT α},Asks n P t->P (kRun lt t)
 | .ret _,h=>h
 | .ask i j k,⟨_,_,h⟩=>Asks.run (t:=k (lt i j)) (h (lt i j))
def Bd (n:Nat)(p:Array Nat):Prop:=0<n/\p.toList.Perm (Z8 n)
theorem Bd.at {n:Nat}{p:Array Nat}(h:Bd n p)(i:Nat):p.getD i 0<n:=by
 by_cases hi:i<p.size
 ·rw[Zdm,Zcm hi]
  have:p[i]∈p.toList:=by simp
  exact Zar.mp (h.2.mem_iff.mp this)
 ·rw[Zdm,Array.getElem?_eq_none (by omega)]
  exact h.1
theorem Bd.perm {n:Nat}{p q:Array Nat}(h:Bd n p)(r:q.Perm p):Bd n q:=⟨h.1,(Array.perm_iff_toList_perm.mp r).trans h.2⟩
section
variable {prog:ZA}{w:ZM}{A:ZG}{E:QvT}{s:Zk}{b:Bool}{Q:Bool->Zk->Prop}
end
section
variable {prog:ZA}{w:ZM}{A:ZG}{E:QvT}{s:Zk}
end
section
variable {ce:CeT}{X:Cx}
end
section
variable {kf:Nat->Int}{p:Array Nat}{n i j:Nat}
def kAt (kf:Nat->Int)(p:Array Nat)(i:Nat):Int:=kf (p.getD i 0)
def Ris (kf:Nat->Int)(p:Array Nat)(n:Nat):Prop:=∀i j,i<=j->j<n->kAt kf p i<=kAt kf p j
def Fal (kf:Nat->Int)(p:Array Nat)(n:Nat):Prop:=∀i j,i<=j->j<n->kAt kf p j<=kAt kf p i
theorem Ris.succ (h:Ris kf p n)(h1:1<=n)(q:kAt kf p (n-1)<=kAt kf p n):Ris kf p (n+1):=λ i j hij hj=>by
 by_cases e:j<n
 ·exact h i j hij e
 ·obtain rfl:j=n:=by omega
  by_cases e2:i=j
  ·subst e2;exact Zb5 _
  ·exact Zci (h i (j-1) (by omega) (by omega)) q
theorem Fal.succ (h:Fal kf p n)(h1:1<=n)(q:kAt kf p n<=kAt kf p (n-1)):Fal kf p (n+1):=λ i j hij hj=>by
 by_cases e:j<n
 ·exact h i j hij e
 ·obtain rfl:j=n:=by omega
  by_cases e2:i=j
  ·subst e2;exact Zb5 _
  ·exact Zci q (h i (j-1) (by omega) (by omega))
end
section
variable {ce:CeT}{X:Cx}
section
variable {A:ZG}{Q:QvT}{E:QvT}{P:PySem.Fin->Zk->Prop}{pj:PnT}{σi:ISt}{σ:L2.St}{G:Hp->Prop}{fq D kS:Zi}{mk:IV->IH->Res IV}{ys:List IV}{ws:List V}{its:List Zd}{ks:List Int}{e e1:Nat}{H:Hp}{ι:List Zi}{h:IH}{s:Zk}
end
end
def XL (x:IV)(h:IH):Option (Nat×List IV):=match x with
 | .ref i=>(match h[i]? with
  | some (.lst xs)=>Za (i,xs)
  | _=>Zb)
 | _=>Zb
theorem Jmz {x:IV}{h:IH}{i:Nat}{xs:List IV}(e:XL x h=Za (i,xs)):x=.ref i/\h[i]?=Za (.lst xs):=by
 unfold XL at e
 split at e
 ·split at e
  ·rename_i q
   cases e
   exact⟨rfl,q⟩
  ·cases e
 ·cases e
def Xj (x:IV)(as:List IV)(h:IH):Res IV:=match XL x h,as with
 | some (i,xs),[.int k]=>(match JN xs with
  | some ns=>(match ns.findIdx? (· ==k) with
   | some j=>.ok .non (h.set i (.lst (xs.eraseIdx j)))
   | none=>.stuck)
  | none=>.stuck)
 | _,_=>.stuck
section
variable {ce:CeT}{X:Cx}
theorem Jsc:MtI ce X "list" "list.remove" Xj:=by
 intro pj s σ H ι σi h x xs v us Q E N rx rs K
 unfold Xj at K
 split at K
 ·rename_i i zs k e
  obtain⟨rfl,hi⟩:=Jmz e
  split at K
  ·rename_i ns hb
   split at K
   ·rename_i j hj
    obtain⟨xv,rx,a,rfl,ha⟩:=rx
    obtain⟨vs,rv,qs⟩:=rs
    obtain⟨w,rfl,qw⟩:=qs.one_of
    cases (show w=.int k from qw)
    obtain⟨u,rfl,t,rfl⟩:=Qq rv
    cases rx
    obtain⟨ws,e1,r1⟩:=N.at hi ha
    obtain⟨z,its,n,r,hl,eo⟩:=N.inv.lstM e1
    have are:=Xa hb r1 r
    have ln:=Jcc are
    obtain⟨hlt,hp,hno⟩:=Zaz.mp hj
    have at_:∀m (hm:m<its.toArray.size),∃t,its.toArray[m]=.int (ns.getD m 0) t:=λ m hm=>IntsAre.int_at are m _ (by simp at hm;simp[hm])
    refine ZcO F.slot_list_remove ⟨_,eo,rfl⟩ F.entry_list_remove (F.args_list_remove_2 _ _)
     (MeetsSeq.list_remove a its.toArray n (.int k t) (isK k) (λ y hy=>?_) j (by simp;omega) ?_ (λ m hm hmj=>?_) (by rw[Zz];omega)) ⟨eo,?_⟩
    ·obtain⟨m,hm,rfl⟩:=Zef.mp hy
     obtain⟨t',e⟩:=at_ m hm
     rw[e]
     exact MeetsSeq.EqGives.int _ _ _ _
    ·obtain⟨t',e⟩:=at_ j (by simp;omega)
     rw[e]
     simpa [isK,Z3,hlt] using hp
    ·obtain⟨t',e⟩:=at_ m hm
     rw[e]
     have:=hno m hmj
     have hm2:m<ns.length:=by omega
     simpa [isK,Z3,hm2] using this
    ·exact finW (ys:=zs.eraseIdx j) (ws:=ws.eraseIdx j) N K ha e1 (r1.erase _) rfl _ _ (N.inv.lset (its':=its.eraseIdx j) e1 eo (by rw[ZcG]) (r.eraseIdx j) (by have:=Jgd ws j;omega)) rfl
   ·exact Zf K
  ·exact Zf K
 ·exact Zf K
end
section
variable {pr:ZA}{wd:ZM}{A:ZG}{E:QvT}{s:Zk}
end
section
variable {ce:CeT}{X:Cx}
end
end L3
namespace L3
open PySem PySem.Spec PyProof.Rows L2
def Itv (K:W.Frag)(a:Zi)(n:Nat):It :=
 ⟨λ i H=>∃xs x,SqL K H a xs/\xs.length=n/\xs.reverse[i]?=Za x,λ i H x H'=>H'=H/\∀xs,SqL K H a xs->xs.reverse[i]?=Za x,λ i _=>n<=i⟩
theorem Js6 {P:ZA}{w:ZM}{K:W.Frag}{tg:Expr}(a it:Zi)(n:Nat):Turn P w K tg (Itv K a n) [it] it (λ i h=>i<=n/\h.IsRevIter it a ((n:Int)-1-i)) where
 mem:=by simp
 obj:=λ i h st b hb=>by
  have e:b=it:=by simpa using hb
  subst e
  obtain⟨_,o,e,c,d⟩:=st
  exact⟨o,e,λ v z=>by rw[d] at z;cases z⟩
 keep:=λ i h h' st k=>⟨st.1,st.2.at λ o e=>k it (by simp) o e⟩
 item:=by
  intro X hP hw hK hc i pj s σ H E I hf st hg
  subst hP hw hK
  obtain⟨xs,x,hq,hl,hx⟩:=hg
  obtain⟨its,rv,p,hz⟩:=I.list hq
  have li:i<n:=by
   have:=(Zn.mp hx).1
   rw[ZbB] at this
   omega
  rw[ZbU (by omega),hl] at hx
  obtain⟨u,hu,ru⟩:=rv.get hx
  obtain⟨f0,f1,f2,f3,f4,f5⟩:=hf it (by simp)
  have st2:=st.2
  rw[show(n:Int)-1-i=((n-1-i:Nat):Int) by omega] at st2
  refine wpAny_pyNext_rev_item st2 p.isList (x:=u) (by simpa using hu) λ h' st' sb=>?_
  have I1:Inv X pj σ H { s with heap:=h' }:=I.turned (t':=s.toks) (λ b o hb e=>(sb.2 b hb).trans e) f0 f1 f3 f4 f5
  obtain⟨o,e,c,d⟩:=id st'
  refine⟨u,rfl,VZ (s:={ s with heap:=h' }) e c d (by decide) ⟨x,H,I1,ru,⟨rfl,λ ys hy=>?_⟩,⟨by omega,?_⟩,λ b hb=>(hf b hb).1⟩⟩
  ·rw[I.list_inj hy hq,ZbU (by omega),hl]
   exact hx
  ·rw[show(n:Int)-1-((i+1:Nat):Int)=((n-1-i:Nat):Int)-1 by omega]
   exact st'
 done:=by
  intro X hP hw hK hc i pj s σ H E I hf st hg
  subst hP hw hK
  have hg:n<=i:=hg
  obtain⟨f0,f1,f2,f3,f4,f5⟩:=hf it (by simp)
  have st2:=st.2
  have l:=st.1
  rw[show(n:Int)-1-i=-1 by omega] at st2
  exact wpAny_pyNext_rev_end (I.ok.hd hc) st2 λ h' eb=>⟨rfl,I.turned (t':=s.toks) (λ b o hb e=>eb b o hb e) f0 f1 f3 f4 f5⟩
 self:=λ _ _ _ _ _ st h=>wpAny_pyIter_revIter st.2 h
def Vg:List IV->IH->Res ItI
 | [.ref i],h=>(match h[i]? with
  | some (.lst xs)=>.ok ⟨xs.reverse,λ h'=>h'[i]?=Za (.lst xs)⟩ h
  | _=>.stuck)
 | _,_=>.stuck
section
variable {ce:CeT}{X:Cx}{tg:Expr}
theorem Jyj {a:Zi}{i:Nat}{xs:List IV}{ι:List Zi}{H₀:Hp}(ha:ι[i]?=Za a):ItOk ce X.K ι H₀ (Itv X.K a xs.length) ⟨xs.reverse,λ h'=>h'[i]?=Za (.lst xs)⟩:=by
 refine⟨λ k x h H ι' hp R hck hx=>?_,λ k h H ι' hp R hck hx=>?_⟩
 ·obtain⟨vs,e1,r1⟩:=R.get hck (hp.at ha)
  have lk:k<xs.length:=by
   have:=(Zn.mp hx).1
   rwa [ZbB] at this
  have hx:xs.reverse[k]?=Za x:=hx
  have hl:=r1.length
  rw[ZbU lk] at hx
  obtain⟨v,hv,qv⟩:=r1.get hx
  have hv':vs.reverse[k]?=Za v:=by rw[ZbU (by omega),hl];exact hv
  refine⟨⟨vs,v,SqL.of e1,hl,hv'⟩,λ y H' hy=>?_⟩
  obtain⟨rfl,hy⟩:=hy
  have:=hy vs (SqL.of e1)
  rw[hv'] at this
  cases this
  exact⟨R,.refl,qv⟩
 ·show xs.length<=k
  rwa [<- ZbB]
theorem J0z {a:Expr}{ma:A1}{p pos:Pos}(hg:Gl X "reversed")(hm:X.mg "reversed"=Zb)(ha:PAi ce X [a] ma)(hs:Z9 [a] X.env=[(Zj,ZaJ a X.env)]:=by rfl):PIi ce X tg (.Call (.Name "reversed" p) [a] [] pos) (iRg Vg ma):=by
 intro pj s σ H ι σi h Q E N K
 refine Call_ (Qg N.inv hg hm rfl (Zaa ?_ hs rfl))
 refine ha pos pj s σ H ι σi h _ E N ?_
 unfold iRg at K
 cases e0:ma σi h with
 | exc n h'=>rw[e0] at K;exact K
 | stuck=>rw[e0] at K;exact K
 | ok vs h' =>
  rw[e0] at K
  intro us s1 H1 ι1 N1 n1 r1
  obtain⟨xs,rv,qs⟩:=r1
  match vs,K with
  | [.ref i],K =>
   obtain⟨w,e1,q⟩:=qs.one_of
   subst e1
   obtain⟨b,e3,hb⟩:=q
   subst e3
   obtain⟨u,rfl,ru⟩:=Qq rv
   cases ru
   cases hi:h'[i]? with
   | none=>simp only[Res.bind,Vg,hi] at K
   | some ob =>
    cases ob with
    | lst ys =>
     simp only[Res.bind,Vg,hi] at K
     obtain⟨ws,eH,rH⟩:=N1.at hi hb
     obtain⟨its,rv2,pl,hz⟩:=N1.inv.list (SqL.of eH)
     have l1:=rv2.length
     have l2:=rH.length
     refine call_reversed_list pl.isList ?_
     have st:(s1.heap.push (revObj b ((its.toArray.size:Int)-1))).IsRevIter s1.heap.objs.size b ((ys.length:Int)-1-((0:Nat):Int)):=⟨_,Zy _ rfl,rfl,by
      show Data.fields #[Za4 b,ZbC ((its.toArray.size:Int)-1)]=_
      rw[show((its.toArray.size:Int)-1)=((ys.length:Int)-1-((0:Nat):Int)) by simp;omega]⟩
     refine wpAny_pyIter_revIter st (K _ _ H1 ι1 ⟨N1.inv.kept (t':=s1.toks) λ b o e=>Zg _ e,N1.rel,N1.st⟩ n1 ?_)
     refine⟨s1.heap.objs.size,[s1.heap.objs.size],_,Itv X.K b ys.length,rfl,Js6 b _ _,⟨Zal _,st⟩,λ c hc=>?_,Jyj hb⟩
     rw[ZI.mp hc]
     exact N1.inv.fpOk (Zr _) (N1.inv.hok.fresh (Zr _))
    | _=>simp only[Res.bind,Vg,hi] at K
  | [],K=>exact Zf K
  | .non::_,K=>exact Zf K
  | .bl _::_,K=>exact Zf K
  | .str _::_,K=>exact Zf K
  | .tup _::_,K=>exact Zf K
  | .rol _::_,K=>exact Zf K
  | .int _::_,K=>exact Zf K
  | .ref _::_::_,K=>exact Zf K
end
def evn {α:Type}:List α->List α
 | a::_::l=>a::evn l
 | l=>l
theorem Job {α:Type}:∀l:List α,(evn l).length<=l.length
 | []=>Zr _
 | [_]=>Zr _
 | _::_::l=>Zcg (Zah (Job l) (Zao _))
theorem Jtq {α:Type}:∀xs:List α,(Z8 ((xs.length+1)/2)).filterMap (λ k=>xs[2*k]?)=evn xs
 | []=>by simp[evn]
 | [_]=>by simp[evn]
 | a::b::l=>by
  rw[show((a::b::l).length+1)/2=(l.length+1)/2+1 by rw[ZC,ZC];omega,ZdV,Zco,List.filterMap_map]
  show a::_=a::evn l
  rw[<- Jtq l]
  rfl
theorem Jps (xs:List Zd):ZeE xs.toArray Zb Zb (Za 2)=(evn xs).toArray:=by
 have hb:ZbK Zb Zb (Za 2) xs.toArray.size=(0,(xs.length:Int),2):=by simp[ZbK]
 have hr:sliceRange 0 (xs.length:Int) 2=(Z8 ((xs.length+1)/2)).map λ k=>2*k:=by
  unfold sliceRange
  have hc:((if (2:Int)>0 then(if (0:Int)<(xs.length:Int) then((xs.length:Int)-0+2-1)/2 else 0) else(if (0:Int)>(xs.length:Int) then(0-(xs.length:Int)-2-1)/(-2) else 0)):Int).toNat=(xs.length+1)/2:=by
   rw[if_pos (by decide)]
   split<;>omega
  simp only[hc]
  refine List.map_congr_left λ k hk=>?_
  omega
 unfold ZeE
 rw[hb]
 dsimp only
 rw[hr,List.filterMap_map,<-Jtq]
 simp only[ZcI]
 rfl
theorem RVs.evn {K:W.Frag}{ι:List Zi}{H:Hp}:∀{xs:List IV}{vs:List V},RVs K ι H xs vs->RVs K ι H (L3.evn xs) (L3.evn vs)
 | [],_,h=>by
  cases (show _=[] from h)
  exact rfl
 | [_],_,h=>by
  obtain⟨v,r,rfl,q,e⟩:=h
  cases (show r=[] from e)
  exact⟨v,[],rfl,q,rfl⟩
 | _::_::_,_,h=>by
  obtain⟨v,r,rfl,q,u,r',rfl,_,t⟩:=h
  exact⟨v,_,rfl,q,RVs.evn t⟩
theorem Jlx:∀{xs:List V}{us:List Zd},Vals xs us->Vals (evn xs) (evn us)
 | [],_,h=>by cases h;exact .nil
 | [_],_,h=>by
  cases h with
  | cons a t=>cases t;exact .cons a .nil
 | _::_::_,_,h=>by
  cases h with
  | cons a t=>cases t with
   | cons b t=>exact .cons a (Jlx t)
section
variable {ce:CeT}{X:Cx}
def evnI:IV->IH->Res IV
 | .ref i,h=>match h[i]? with
  | some (.lst xs)=>.ok (.ref h.length) (h++[.lst (evn xs)])
  | _=>.stuck
 | _,_=>.stuck
theorem J0x {a st:Expr}{ma ms:E1}{p2 pos:Pos}(ha:PEi ce X a ma)(hst:PEi ce X st ms)(hm:∀σ h,ms σ h=.ok (.int 2) h:=by intro _ _;rfl):PEi ce X (.Subscript a (.Slice Zb Zb (Za st) p2) pos) (eUn evnI ma):=by
 intro pj s σ H ι σi h Q E N K
 refine Subscript_ (ha.run N K λ x h1 v s1 H1 ι1 N1 n1 r1 K1=>?_)
 refine wpAny_Slice ?_
 rw[Zev]
 refine Zw (Zw ?_)
 rw[evalPart_some]
 refine hst pj s1 σ H1 ι1 σi h1 _ E N1 ?_
 rw[hm]
 intro uv s3 H3 ι3 N3 n3 r3
 obtain⟨w,rw',q⟩:=r3
 cases (show w=.int 2 from q)
 obtain⟨t,rfl⟩:=rw'
 have K3:=Kont.mono (r:=evnI x h1) K1 n3
 have r1':=r1.mono n3
 have I4:Inv X pj σ H3 { s3 with heap:=s3.heap.push { cls:=.type "slice",data:=.fields #[.none,.none,.int 2 t] } }:=N3.inv.kept (t':=s3.toks) λ b ob q=>Zg _ q
 obtain⟨xv,rx,qx⟩:=r1'
 cases x with
 | ref i =>
  obtain⟨b,rfl,hb⟩:=qx
  cases rx
  dsimp only[evnI] at K3
  cases hi:h1[i]? with
  | none=>rw[hi] at K3;exact Zf K3
  | some ob =>
   rw[hi] at K3
   cases ob with
   | lst ys =>
    obtain⟨vs,e1,rr⟩:=N3.at hi hb
    obtain⟨its,r,ht,hz⟩:=I4.list (SqL.of e1)
    have hlen:=r.length
    refine tail_any (ops:=[.ref b,.ref s3.heap.objs.size]) ht.isList.typeIs slot_list_getitem.lookup (ZdB ht.isList (Heap.IsSliceOf.new ..) .none .none (.int 2 t) (by decide) ?_ (by rw[Zz];omega)) (by with_unfolding_all rfl)
    rw[Jps]
    have fr:H3 (s3.heap.push { cls:=.type "slice",data:=.fields #[.none,.none,.int 2 t] }).objs.size=Zb:=I4.hok.fresh (Zr _)
    have N4:Now ce X pj ι3 σi h1 σ H3 { s3 with heap:=s3.heap.push { cls:=.type "slice",data:=.fields #[.none,.none,.int 2 t] } }:=⟨I4,N3.rel,N3.st⟩
    exact finA N4 K3 _ fr ⟨_,Jy,RVs.new fr rr.evn⟩ _ _ (I4.laid (t':=s3.toks) (o:=.lst (evn vs)) (λ b ob q=>Zg _ q) (Zr _) ⟨Zah (Job _) hz,evn its,0,Jlx r,Zy _ rfl⟩) rfl
   | _=>exact Zf K3
 | _=>exact Zf K3
end
end L3
namespace L4
open PySem PySem.Spec PyProof.Rows L2 L3
noncomputable def stE:E1:=λ _ _=>.stuck
noncomputable def stT:T1:=λ _ _=>.stuck
noncomputable def stO:O1:=λ _ _=>.stuck
noncomputable def stI:I1:=λ _ _=>.stuck
noncomputable def stG:G1:=λ _ _ _=>.stuck
noncomputable def stS:S1:=λ _ _=>.stuck
structure Fn where
 np:Nat
 dvs:List IV
 run:List IV->IH->Res IV
structure Pg where
 fn:Str->Option Fn
 cls:Str->Option Fn
 meth:Str->Str->Option Fn
 con:Str->Option IV
 isa:Str->Option (Str->Bool)
 fld:Str->Bool
 free:Str->Bool
 tabs:Str->Option Nat
 rz:Str->Bool
 bas:Str->Bool
 xi:Str->Option (Str->Option Bool)
 wr:Str->Option (List IV->IH->Res IV)
 ne:Str->Bool
 xo:Str->Option Fn
 xf:Str->Str->Bool
 xb:Str->Bool
structure Sc where
 N:List Str
 names:List (Str×Zbb)
 own:Bool
 q:Str
noncomputable def ixOf (x:Str):List Str->Option Nat
 | []=>Zb
 | y::r=>if y==x then Za 0 else(ixOf x r).map (· + 1)
noncomputable def Sc.vis (S:Sc)(x:Str):Option Nat :=
 match S.names.lookup x with
 | some .local=>if x=="__debug__"||x=="__classdict__" then Zb else ixOf x S.N
 | some .cell=>if x=="__debug__"||x=="__classdict__" then Zb else ixOf x S.N
 | some .free=>if x=="__debug__"||x=="__classdict__" then Zb else ixOf x S.N
 | _=>Zb
noncomputable def Sc.gl (S:Sc)(x:Str):Bool:=S.names.lookup x==Za .globalImplicit&&!(x=="__debug__")&&!(x=="__name__")
noncomputable def Sc.sto (S:Sc)(x:Str):Option Nat :=
 match S.names.lookup x with
 | some .local=>ixOf x S.N
 | some .cell=>if S.own then ixOf x S.N else Zb
 | _=>Zb
def evC:Const->E1
 | .int i=>eC (.int i)
 | .bool b=>eC (.bl b)
 | .none=>eC .non
 | .str x=>eC (.str x)
 | _=>stE
def binI:Operator->IV->IV->IH->Res IV
 | .Add=>Jl
 | .Sub=>Qi
 | .Mult=>JW
 | .FloorDiv=>JI
 | .Mod=>J2
 | .Pow=>JK
 | _=>λ _ _ _=>.stuck
def cmpI:CmpOp->IV->IV->IH->Res IV
 | .Lt=>cLt
 | .LtE=>cLe
 | .Gt=>cGt
 | .GtE=>cGe
 | .Eq=>cEq
 | .NotEq=>cNe
 | .Is=>cIs
 | .IsNot=>V6
 | .In=>cIn
 | .NotIn=>V7
def unI:UnaryOp->IV->IH->Res IV
 | .Not=>Vy tru
 | .USub=>Jv2
 | _=>λ _ _=>.stuck
def Jrd:List E1->E1
 | []=>stE
 | [a]=>a
 | a::b::r=>eAnd a (Jrd (b::r)) tru
def eOrs:List E1->E1
 | []=>stE
 | [a]=>a
 | a::b::r=>eOr a (eOrs (b::r)) tru
def Js4:List T1->T1
 | []=>stT
 | [a]=>a
 | a::b::r=>Q3 a (Js4 (b::r))
def tOrs:List T1->T1
 | []=>stT
 | [a]=>a
 | a::b::r=>tOrI a (tOrs (b::r))
def aAll:List E1->A1
 | []=>Jd
 | a::r=>Jb a (aAll r)
def Jp:Expr->Bool
 | .Starred .. =>Zj
 | _=>Ze
def VC:Expr->Bool
 | .Set .. =>Zj
 | _=>Ze
def Jhz:Expr->Bool
 | .Slice .. =>Zj
 | _=>Ze
def QE:Expr->Bool
 | .ListComp .. =>Zj
 | .SetComp .. =>Zj
 | .DictComp .. =>Zj
 | _=>Ze
def Qx:Expr->Bool
 | .Call (.Name ..) [] [] _=>Zj
 | _=>Ze
def isP2:Expr->Bool
 | .Constant (.int 2) _ _=>Ze
 | _=>Zj
def Fn.fill (f:Fn)(n:Nat):Option (List IV):=if n<=f.np/\f.np<=n+f.dvs.length then Za (f.dvs.drop (f.dvs.length-(f.np-n))) else Zb
def Jk9 (f:Fn)(n:Nat)(a:A1):E1:=match f.fill n with
 | some d=>Jn f.run d a
 | none=>stE
def Jlb (c:Str)(f:Fn)(n:Nat)(a:A1):E1:=match f.fill (n+1) with
 | some d=>Qn c f.run d a
 | none=>stE
def bltF (x:Str):List IV->IH->Res IV :=
 if x=="len" then on1 lenI else if x=="all" then on1 allI else if x=="sum" then on1 sumI else if x=="sorted" then on1 Xl else if x=="max" then on1 Xf else λ _ _=>.stuck
def bltT (x:Str):List IV->IH->Res IV :=
 if x=="list" then on1 Qp else if x=="tuple" then on1 VJ else λ _ _=>.stuck
def Jox (x:Str):Bool:=x=="len"||x=="all"||x=="sum"||x=="sorted"||x=="max"
def Joy (x:Str):Bool:=x=="list"||x=="tuple"
def Jq4 (P:Pg)(x:Str):Option (Ty->Option Bool) :=
 match P.isa x with
 | some g=>Za λ t=>match t with|.ins c=>Za (g c)|.exc _=>Zb|_=>Za Zj
 | none=>if P.free x then(if x=="int" then Za Vd else if x=="bool" then Za Vc else if x=="str" then Za Vo else if x=="list" then Za (if P.ne "Work" then Vn else Ql) else if x=="tuple" then Za Vp else Zb) else Zb
def Juu (o:Option (Ty->Option Bool))(e:E1):E1:=match o with
 | some ans=>eIsi ans e
 | none=>stE
def bmOf (T:String)(m:Str)(n:Nat):Option (IV->List IV->IH->Res IV) :=
 if T=="list"&&m=="append"&&n==1 then Za V5 else if T=="list"&&m=="pop"&&n==1 then Za popI else if T=="list"&&m=="extend"&&n==1 then Za VX else if T=="list"&&m=="remove"&&n==1 then Za Xj else if T=="dict"&&m=="setdefault"&&n==2 then Za V1 else Zb
def Vf (P:Pg)(m:Str)(n:Nat):Str->Option ((List IV->IH->Res IV)×List IV):=λ c=>match P.meth c m with
 | some f=>(match f.fill (n+1) with
  | some d=>Za (f.run,d)
  | none=>Zb)
 | none=>Zb
def VA (v:IV)(h:IH):Bool:=match v with
 | .ref i=>(match h[i]? with
  | some (.ins ..)=>Ze
  | _=>Zj)
 | _=>Zj
def tyS (v:IV)(h:IH):String:=match v with
 | .str _=>"str"
 | .rol _=>"list"
 | .ref i=>(match h[i]? with
  | some (.lst _)=>"list"
  | some (.dct _)=>"dict"
  | _=>"")
 | _=>""
def J1 (P:Pg)(m:Str)(n:Nat)(o:E1)(a:A1):E1:=λ σ h=>match o σ h with
 | .ok v h1=>if VA v h1 then Jrg m (Vf P m n) o a σ h else(match bmOf (tyS v h1) m n with
  | some g=>eBm (tyS v h1) g o a σ h
  | none=>.stuck)
 | _=>.stuck
def Jxy (n:Nat)(a:A1):I1:=match n with
 | 1=>iRg JD a
 | 2=>iRg Vw a
 | _=>stI
def gAll:List G1->List IV->ISt->IH->SRes
 | []=>gN
 | g::r=>gC g (gAll r)
def Qh (sc:Zba):List Str:=sc.names.filterMap λ x=>if x.2==.local&&!(x.1==(".0":Str)) then Za x.1 else Zb
def JV (sc:Zba):List Str:=sc.names.filterMap λ x=>if x.2==.free then Za x.1 else Zb
def jsOf (S:Sc)(sc:Zba):List Nat:=(JV sc).map λ x=>(ixOf x S.N).getD 0
def Sc.comp (S:Sc)(sc:Zba):Sc where
 N:=Qh sc++JV sc
 names:=sc.names.map λ x=>if x.2==.free&&S.names.lookup x.1==Za .cell then(x.1,.cell) else x
 own:=Zj
 q:=""
def Sc.lam (S:Sc)(x:Str)(sc:Zba):Sc where
 N:=x::JV sc
 names:=sc.names
 own:=Zj
 q:=""
def VB (S:Sc)(x:Str)(sc:Zba):Bool :=
 sc.kind==.function&&!sc.isCoroutine&&!sc.isGenerator&&sc.names.all (λ y=>!(y.2==.cell))&&sc.names.lookup x==Za .local&&sc.names.all (λ y=>!(y.2==.free)||S.names.lookup y.1==Za .cell)
  && (JV sc).all (λ y=>decide (S.N[(ixOf y S.N).getD 0]?=Za y)&&sc.names.lookup y==Za .free)&&decide (x::JV sc).Nodup
def Sc.fake (S:Sc):Zba:={ kind:=.function,names:=S.names,isGenerator:=Zj,isCoroutine:=Zj }
def Jtp:Expr->Bool
 | .Name x _=>x=="last_come"||x=="tops"||x=="last"||x=="_law_last"||x=="_law_lows_here"
 | _=>Zj
def ixD (a:Expr):IV->IV->IH->Res IV:=if Jtp a then Xg else Jk
def cmpD (ne:Str->Bool)(o:CmpOp)(b:Expr):IV->IV->IH->Res IV:=match o with
 | .In=>if Jtp b then cInD else cIn
 | o=>cmpI o
def Jt6:Expr->Option Expr
 | .Call (.Name y _) [e] [] _=>if y=="set"&&Jp e then Za e else Zb
 | _=>Zb
def Jt1:Expr->Option Expr
 | .Call (.Name y _) [e] [] _=>if y=="range"&&Jp e then Za e else Zb
 | _=>Zb
def Jhm (P:Pg)(S:Sc)(x:Str)(f:Expr->E1):List Expr->E1
 | [a,b]=>if x=="max" then eCB (on2 maxI) (Jb (f a) (Jb (f b) Jd)) else if x=="min" then eCB (on2 minI) (Jb (f a) (Jb (f b) Jd)) else(match b with
  | .Name y _=>if x=="isinstance"&&S.gl y then Juu (Jq4 P y) (f a) else stE
  | _=>stE)
 | [a]=>(match (if x=="len"&&S.gl "set"&&P.free "set" then Jt6 a else Zb) with
  | some e=>XD (Jb (f e) Jd)
  | none=>match (if x=="list"&&S.gl "range"&&P.free "range" then Jt1 a else Zb) with
  | some e=>eLR (Jb (f e) Jd)
  | none=>if Jox x then eCB (bltF x) (Jb (f a) Jd) else if Joy x then eCB (bltT x) (Jb (f a) Jd) else stE)
 | _=>stE
def Jo3 (P:Pg)(S:Sc)(f:Sc->Expr->E1)(x:Str)(args:List Expr)(kws:List Zdj):E1:=match args,kws with
 | [a],[⟨Za k,d,_⟩]=>if x=="max"&&k=="default"&&S.gl x&&P.free x&&Jp a then XE (Jb (f S a) Jd) (f S d) else stE
 | [a],[⟨Za k,.Lambda ps body sc _,_⟩,⟨Za k2,d,_⟩]=>(match Xe ps,P.tabs S.q with
  | some y,Za j=>if x=="max"&&k=="key"&&k2=="default"&&S.gl x&&P.free x&&Jp a&&S.own&&VB S y sc then XF gtZ S.q j (jsOf S sc) (Jb (f S a) Jd) (f (S.lam y sc) body) (f S d) else stE
  | _,_=>stE)
 | _,_=>stE
def Jum (P:Pg)(S:Sc)(m:Str):Expr->Bool
 | .Name x _=>m=="__init__"&&S.gl x&&P.xb x
 | _=>Zj
def Jrf (P:Pg)(S:Sc)(m:Str)(n:Nat)(o:Expr)(a:A1)(e:E1):E1:=if Jum P S m o&&decide (n≠0) then XC (λ c=>(P.xo c).isSome) a else e
def Jn3 (ifs:List Expr)(f:Expr->T1)(m:T1->E1):E1:=match ifs with
 | []=>m JJ
 | [c]=>m (f c)
 | _=>stE
section
mutual
def ev (P:Pg):Nat->Sc->Expr->E1
 | 0,_,_=>stE
 | n+1,S,e=>match e with
  | .Constant c _ _=>evC c
  | .Name x _=>(match S.vis x with
   | some i=>Ja i
   | none=>if S.gl x then(match P.con x with
    | some v=>eC v
    | none=>stE) else stE)
  | .BinOp a op b _=>Jc (binI op) (ev P n S a) (ev P n S b)
  | .UnaryOp op a _=>eUn (unI op) (ev P n S a)
  | .BoolOp .And vs _=>Jrd (vs.map (ev P n S))
  | .BoolOp .Or vs _=>eOrs (vs.map (ev P n S))
  | .IfExp t a b _=>eIf (evT P n S t) (ev P n S a) (ev P n S b)
  | .Compare a [o] [b] _=>if Zbf o b then stE else Jc (cmpD P.ne o b) (ev P n S a) (ev P n S b)
  | .Compare a [o,o'] [b,c] _=>if ZdL [o,o'] [b,c] then stE else QB (cmpI o) (cmpI o') (ev P n S a) (ev P n S b) (ev P n S c)
  | .Tuple es _ _=>if es.all Jp then eTup (aAll (es.map (ev P n S))) else stE
  | .Dict [] [] _=>Jre
  | .List es _=>if es.all Jp then J7 (aAll (es.map (ev P n S))) else stE
  | .Subscript a (.Slice lo hi Zb _) _=>eSl slI (ev P n S a) (evO P n S lo) (evO P n S hi)
  | .Subscript a (.Slice Zb Zb (Za st) _) _=>if isP2 st then eUn evnI (ev P n S a) else stE
  | .Subscript a i _=>if Jhz i then Jc (ixD a) (ev P n S a) (ev P n S i) else stE
  | .Attribute o f _=>if Qx o&&P.fld f then eFld f (ev P n S o) else stE
  | .Call (.Name x _) args [] _=>if S.gl x&&args.all Jp then Joa P n S x args else stE
  | .Call (.Name x _) args (kw::kws) _=>Jo3 P S (λ S e=>ev P n S e) x args (kw::kws)
  | .Call (.Attribute o m ap) args [] p=>if args.all Jp&&Qx o&&(ap.endLine==p.line)&&decide (args.length<30) then Jrf P S m args.length o (aAll (args.map (ev P n S))) (J1 P m args.length (ev P n S o) (aAll (args.map (ev P n S)))) else stE
  | .ListComp elt [⟨tg,iter,ifs,as⟩] sc _ =>
   if as=0/\VC iter=Ze/\JY S.N (Qh sc) (JV sc) (jsOf S sc) S.fake sc=Ze then
    Jn3 ifs (evT P n (S.comp sc)) λ mt=>Js (evI P n S tg iter) (Qh sc).length (jsOf S sc) (tgt P n (S.comp sc) tg) mt (ev P n (S.comp sc) elt)
   else stE
  | _=>stE
def evT (P:Pg):Nat->Sc->Expr->T1
 | 0,_,_=>stT
 | n+1,S,e=>match e with
  | .UnaryOp .Not a _=>J8 (evT P n S a)
  | .BoolOp .And vs _=>Js4 (vs.map (evT P n S))
  | .BoolOp .Or vs _=>tOrs (vs.map (evT P n S))
  | .IfExp .. =>stT
  | .Compare a [o] [b] _=>if Zbf o b then stT else Jh asB (Jc (cmpD P.ne o b) (ev P n S a) (ev P n S b))
  | .Compare a [o,o'] [b,c] _=>if ZdL [o,o'] [b,c] then stT else Jh asB (QB (cmpI o) (cmpI o') (ev P n S a) (ev P n S b) (ev P n S c))
  | .Compare .. =>stT
  | e=>Jh tru (ev P n S e)
def evO (P:Pg):Nat->Sc->Option Expr->O1
 | 0,_,_=>stO
 | _+1,_,Zb=>XQ
 | n+1,S,Za e=>Qy (ev P n S e)
def Joa (P:Pg):Nat->Sc->Str->List Expr->E1
 | 0,_,_,_=>stE
 | n+1,S,x,args=>match P.fn x with
  | some f=>Jk9 f args.length (aAll (args.map (ev P n S)))
  | none=>match P.cls x with
   | some f=>Jlb x f args.length (aAll (args.map (ev P n S)))
   | none=>if P.free x then Jhm P S x (ev P n S) args else stE
def evI (P:Pg):Nat->Sc->Expr->Expr->I1
 | 0,_,_,_=>stI
 | n+1,S,tg,e=>match e with
  | .Call (.Name x _) args [] _ =>
   if S.gl x&&P.free x&&args.all Jp&&(x=="range") then Jxy args.length (aAll (args.map (ev P n S)))
   else if S.gl x&&P.free x&&args.all Jp&&(x=="enumerate") then(match tg,args with
    | .Tuple ..,[a]=>iRg QN (Jb (ev P n S a) Jd)
    | _,_=>stI)
   else if S.gl x&&P.free x&&args.all Jp&&(x=="reversed") then(match args with
    | [a]=>iRg Vg (Jb (ev P n S a) Jd)
    | _=>stI)
   else J0 (ev P n S e)
  | e=>J0 (ev P n S e)
def tgt (P:Pg):Nat->Sc->Expr->G1
 | 0,_,_=>stG
 | n+1,S,e=>match e with
  | .Name x _=>(match S.sto x with
   | some i=>gNm i
   | none=>stG)
  | .Tuple es _ _=>if es.all Jp then gTp es.length (gAll (es.map (tgt P n S))) else stG
  | _=>stG
end
end
def Q5 (t:T1)(b:S1):Nat->S1
 | 0,_,_=>.stuck
 | n+1,σ,h=>match t σ h with
  | .ok c h1=>if c then(match b σ h1 with
   | .next σ2 h2=>Q5 t b n σ2 h2
   | .cont σ2 h2=>Q5 t b n σ2 h2
   | .brk σ2 h2=>.next σ2 h2
   | .ret v h2=>.ret v h2
   | .exc m σ2 h2=>(match h2[m]? with
    | some (.exc _ _)=>.exc m σ2 h2
    | _=>.stuck)
   | _=>.stuck) else .next σ h1
  | _=>.stuck
@[irreducible] def VL:Nat:=1000000
def Jkh (o:Bool)(t:T1)(b:S1):S1:=match o with
 | true=>Q5 t b VL
 | false=>stS
def VG (t:T1)(b:S1):S1:=Jkh Ze t b
theorem Jgj (t:T1)(b:S1):VG t b=Q5 t b VL:=rfl
def sAll:List S1->S1
 | []=>Jv
 | [a]=>a
 | a::b::r=>Je a (sAll (b::r))
def Jvy:Expr->Bool
 | .Tuple .. =>Zj
 | _=>Ze
def Jr3:Expr->Bool
 | .Tuple .. =>Ze
 | _=>Zj
def isLC:Expr->Bool
 | .ListComp .. =>Ze
 | _=>Zj
def Jr2:Expr->Bool
 | .Subscript .. =>Ze
 | _=>Zj
abbrev Xi:=Str->Option (Str->Option Bool)
def J16 (g:Str->Option Bool):Ty->Option Bool
 | .exc c=>g c
 | _=>Zb
section
def Ju5 (S:Sc)(xi:Xi)(fr:Str->Bool)(f:Expr)(as:List Expr)(ks:List Zdj)(p:Pos)(m:Expr->E1):E1:=match f,as,ks with
 | .Name x _,[a,.Name D _],[]=>if x=="isinstance"&&fr x&&S.gl x&&S.gl D&&Jp a then(match xi D with
  | some g=>eIsi (J16 g) (m a)
  | none=>stE) else stE
 | .Name x _,[a],[]=>if x=="len"&&fr x&&S.gl x&&Jp a then eCB (on1 lenI) (Jb (m a) Jd) else stE
 | .Attribute o y ap,[a],[]=>if y=="index"&&Jp a&&Qx o&&(ap.endLine==p.line) then eBm "list" Jov (m o) (Jb (m a) Jd) else stE
 | _,_,_=>stE
def Ju6 (w:Bool)(S:Sc)(sc:Zba)(elt:Expr)(gens:List Comprehension)(m:Bool->Sc->Expr->E1):E1:=match gens with
 | [⟨.Name y _,iter,[.Name c cp],as⟩]=>if w=Ze/\as=0/\VC iter=Ze/\JY S.N (Qh sc) (JV sc) (jsOf S sc) S.fake sc=Ze then(match (S.comp sc).sto y with
  | some i=>Js (Ju9 (m w S iter)) (Qh sc).length (jsOf S sc) (gNm i) (Jh tru (m Zj (S.comp sc) (.Name c cp))) (m Zj (S.comp sc) elt)
  | none=>stE) else stE
 | _=>stE
def hv (xi:Xi)(xf:Str->Str->Bool)(fr:Str->Bool):Nat->Bool->Sc->Expr->E1
 | 0,_,_,_=>stE
 | n+1,w,S,e=>match e with
  | .Constant c _ _=>evC c
  | .Name x _=>(match S.vis x with
   | some i=>Ja i
   | none=>stE)
  | .BinOp a op b _=>Jc (binI op) (hv xi xf fr n w S a) (hv xi xf fr n w S b)
  | .Compare a [o] [b] _=>if Zbf o b then stE else Jc (cmpI o) (hv xi xf fr n w S a) (hv xi xf fr n w S b)
  | .Subscript a i _=>if Jhz i then Jc Jk (hv xi xf fr n w S a) (hv xi xf fr n w S i) else stE
  | .UnaryOp op a _=>eUn (unI op) (hv xi xf fr n w S a)
  | .BoolOp .And vs _=>Jrd (vs.map (hv xi xf fr n w S))
  | .BoolOp .Or vs _=>eOrs (vs.map (hv xi xf fr n w S))
  | .Tuple es _ _=>if es.all Jp then eTup (aAll (es.map (hv xi xf fr n w S))) else stE
  | .List es _=>if es.all Jp then J7 (aAll (es.map (hv xi xf fr n w S))) else stE
  | .Call f as ks p=>Ju5 S xi fr f as ks p (hv xi xf fr n w S)
  | .Attribute o f _=>if Qx o then VW (xf f) f (hv xi xf fr n w S o) else stE
  | .ListComp elt gens sc _=>Ju6 w S sc elt gens (hv xi xf fr n)
  | _=>stE
def hT (xi:Xi)(xf:Str->Str->Bool)(fr:Str->Bool)(w:Bool)(S:Sc):Nat->Expr->T1
 | 0,_=>stT
 | n+1,e=>match e with
  | .UnaryOp .Not a _=>J8 (hT xi xf fr w S n a)
  | .BoolOp .And vs _=>Js4 (vs.map (hT xi xf fr w S n))
  | .BoolOp .Or vs _=>tOrs (vs.map (hT xi xf fr w S n))
  | .Compare a [o] [b] _=>if Zbf o b then stT else Jh asB (Jc (cmpI o) (hv xi xf fr n w S a) (hv xi xf fr n w S b))
  | .Call f as ks p=>Jh tru (hv xi xf fr n w S (.Call f as ks p))
  | _=>stT
def hx (xi:Xi)(xf:Str->Str->Bool)(fr:Str->Bool)(w:Bool)(S:Sc):Nat->Zbv->S1
 | 0,_=>stS
 | n+1,st=>match st with
  | .Pass _=>Jss
  | .Return (Za e) _=>Jm (hv xi xf fr n w S e)
  | .If c a b _=>sIf (hT xi xf fr w S n c) (sAll (a.map (hx xi xf fr w S n))) (sAll (b.map (hx xi xf fr w S n)))
  | .Assign [.Name x _] e _=>if QE e then(match S.sto x with
   | some i=>Ji i (hv xi xf fr n w S e)
   | none=>stS) else stS
  | _=>stS
def hSl (S:Sc):Option Str->Option (Option Nat)
 | none=>Za Zb
 | some x=>if S.names.lookup x==Za .local then(ixOf x S.N).map Za else Zb
def Jom (P:Pg)(S:Sc)(n:Nat)(sl:Option Nat)(suite:List Zbv):S1:=match suite with
 | [.Assign [.Name x _] (.Call (.Name f _) [.Name e _] [] _) _]=>(match S.sto x,sl,P.wr f with
  | some j,Za i,Za g=>if S.gl f&&decide (S.vis e=Za i) then Jpn j g i else stS
  | _,_,_=>stS)
 | _=>sAll (suite.map (hx P.xi P.xf P.free Zj S n))
def hHd (P:Pg)(S:Sc)(n:Nat):Zbg->Option HdI
 | .ExceptHandler (Za (.Name D _)) nm (b::suite) _=>if S.gl D then(match P.xi D,hSl S nm with
  | some g,Za sl=>Za (g,sl,Jom P S n sl (b::suite))
  | _,_=>Zb) else Zb
 | _=>Zb
def hHds (P:Pg)(S:Sc)(n:Nat):List Zbg->Option (List HdI)
 | []=>Za []
 | h::r=>match hHd P S n h,hHds P S n r with
  | some q,Za l=>Za (q::l)
  | _,_=>Zb
end
def XiOk (K:W.Frag)(mg:Str->Option Zd)(xi:Xi)(xf:Str->Str->Bool):Prop:=(∀D g,xi D=Za g->∃v,(mg D=Za v∨(mg D=Zb/\Zbp D=Za v)) /\
 ∀c C b,g c=Za b->W.nsIn K Zm c=Za (Za (.ref C))->ExI K C/\W.kitOne K (.ref C) v=Za b/\W.exmOne K (.ref C) v=Za b) /\
 ∀f c C,xf f c=Ze->W.nsIn K Zm c=Za (Za (.ref C))->StoX K C f/\ExI K C/\W.findIn K (.ref C) f=Za Zb
section
def Jkd (P:Pg)(S:Sc)(m:Expr->E1)(x:Str)(e:Expr):S1:=match P.xo x with
 | some f=>if S.gl x&&Jp e&&decide (f.np<=8) then(match f.fill 2 with
  | some d=>XT (λ c=>c==x) (Jla x f.run d (aAll ([e].map m)))
  | none=>stS) else stS
 | none=>stS
def Jok (P:Pg)(S:Sc)(m:Expr->E1)(exc cause:Option Expr):S1:=match exc,cause with
 | some (.Call (.Name x _) [e] [] _),Zb=>if S.gl x&&P.rz x&&Jp e then JO x (Jb (m e) Jd) else Jkd P S m x e
 | _,_=>stS
def hTry (P:Pg)(S:Sc)(n:Nat)(m:Zbv->S1)(body:List Zbv)(hs:List Zbg)(o f:List Zbv):S1:=match hs,o,f with
 | h::r,[],[]=>if S.own then(match hHds P S n (h::r) with
  | some ms=>sTry (sAll (body.map m)) ms
  | none=>stS) else stS
 | _,_,_=>stS
end
def Jwc (P:Pg)(f:Str)(o e:E1):S1:=if P.fld f then Q0 f o e else XS (P.xf f) f o e
section
def ex (P:Pg):Nat->Sc->Zbv->S1
 | 0,_,_=>stS
 | n+1,S,st=>match st with
  | .Pass _=>Jss
  | .Break _=>Jt3
  | .Continue _=>Jzk
  | .Expr e _=>if QE e then JT (ev P n S e) else stS
  | .Return Zb _=>Jwd
  | .Return (Za e) _=>Jm (ev P n S e)
  | .If c a b _=>sIf (evT P n S c) (sAll (a.map (ex P n S))) (sAll (b.map (ex P n S)))
  | .While c a [] _=>Jkh S.own (evT P n S c) (sAll (a.map (ex P n S)))
  | .For tg it a [] _=>if VC it&&S.own then sFor (evI P n S tg it) (tgt P n S tg) (sAll (a.map (ex P n S))) else stS
  | .Assign [.Name x _] e _=>if QE e||isLC e then(match S.sto x with
   | some i=>Ji i (ev P n S e)
   | none=>stS) else stS
  | .Assign [.Attribute o f _] e _=>if QE e||isLC e then Jwc P f (ev P n S o) (ev P n S e) else stS
  | .Assign [tg] e _=>if QE e&&((Jr3 tg&&Jvy e)||Jr2 tg) then sAsg (ev P n S e) (tgt P n S tg) else stS
  | .Raise exc cause _=>Jok P S (ev P n S) exc cause
  | .Try body hs o f _=>hTry P S n (ex P n S) body hs o f
  | _=>stS
end
structure FnD (ce:CeT)(prog:ZA)(w:ZM)(K:W.Frag)(mg:Str->Option Zd)(base:ZT)(k:Nat)(f:Fn)(fa:Zi)(fd:Zam)(ps:List Str):Prop where
 len:ps.length=f.np
 ok:FnOk prog w K mg base (CXI prog w) k fa fd ps (spI ce K ps f.run)
 dv:∀j,j<=f.dvs.length->∃ds,JL K fd ps ds/\ds.length=f.dvs.length-j/\∃vs,Vals vs ds/\∀ι H,RVs K ι H (f.dvs.drop j) vs
structure PgOk (ce:CeT)(k:Nat)(P:Pg)(prog:ZA)(w:ZM)(K:W.Frag)(mg:Str->Option Zd)(base:ZT):Prop where
 fn:∀x f,P.fn x=Za f->∃fa fd ps,mg x=Za (.ref fa)/\W.keepIn K (.ref fa)=Ze/\FnD ce prog w K mg base k f fa fd ps
 cls:∀x f,P.cls x=Za f->∃C fa fd ps,mg x=Za (.ref C)/\ce x=Za C/\Mk K C fa/\FnD ce prog w K mg base k f fa fd ps
 meth:∀c m f,P.meth c m=Za f->∃C fa fd ps,ce c=Za C/\Cls K C/\Meth K C m fa/\FnD ce prog w K mg base k f fa fd ps
 con:∀x v,P.con x=Za v->∃u y,mg x=Za u/\RelV y u/\∀ι H,RV K ι H v y
 isa:∀D g,P.isa D=Za g->∃c,mg D=Za c/\IsOk ce K c λ t=>match t with|.ins c=>Za (g c)|.exc _=>Zb|_=>Za Zj
 fld:∀f,P.fld f=Ze->Jq1 ce K f
 free:∀x,P.free x=Ze->mg x=Zb
 blt:∀q j,P.tabs q=Za j->Q7 mg base
 rz:∀x,P.rz x=Ze->∃C,mg x=Za (.ref C)/\W.nsIn K Zm x=Za (Za (.ref C))/\XCls K C
 xi:XiOk K mg P.xi P.xf
 bas:∀x,P.bas x=Ze->∃C,mg x=Za (.ref C)/\BasK K C
 wr:∀x r,P.wr x=Za r->∃fa fd qual st dV N' p1 m,mg x=Za (.ref fa)/\W.keepIn K (.ref fa)=Ze/\FunD K x qual st fa fd dV/\FnScope N' [p1] (Jx st)/\JL K fd [p1] []/\r=fnI N'.length m /\
  ∀(cdv:Zd)(A:ZG)(outer:List Env)(s:Zk)(H:Hp)(E:XK)(a:Zi),W.codeIn K cdv qual=Ze->Room (k+2) (A.deeper (ZcK qual (Jx st) s.heap.objs.size fa cdv))->Warm (A.mark (Za (.ref a))) H->PS2 ce (Jj (cxOf (CXI prog w) prog w K mg base N' qual (Jx st) fa cdv A outer s H E).nox a) (JG st) m
 ne:∀c,P.ne c=Ze->∃C,ce c=Za C/\neIn K C=Ze/\ClsI K C/\W.kitOne K (.ref C) (.type "list")=Za Zj
 xo:∀x f,P.xo x=Za f->∃C fa fd ps,mg x=Za (.ref C)/\W.nsIn K Zm x=Za (Za (.ref C))/\JQ K C fa=Ze/\W.keepIn K (.ref C)=Ze/\(∀h:ZT,K.In h->ExC h C)/\FnD ce prog w K mg base k f fa fd ps
 xb:∀x,P.xb x=Ze->∃C,mg x=Za (.ref C)/\BasX K C
structure Good (ce:CeT)(k:Nat)(P:Pg)(S:Sc)(X:Cx):Prop where
 n:X.N=S.N
 sc:X.env.scope.names=S.names
 nd:S.N.Nodup
 fk:X.env.scope.kind=.function
 calm:X.calm=Ze
 room:Room (k+1) X.A
 st:S.own=Ze->∀x,X.fn x=Ze
 pg:PgOk ce k P X.prog X.w X.K X.mg X.base
 code:S.own=Ze->W.codeIn X.K X.env.code S.q=Ze/\X.env.qual=S.q++".<locals>."
 room3:S.own=Ze->Room (k+3) X.A
 top:S.own=Ze->X.stack=X.env::X.outer/\X.env.frame=Za X.env.locals
section
variable {ce:CeT}{k:Nat}{P:Pg}{S:Sc}{X:Cx}{α β:Type}{R:REL α β}
theorem Jg {t:Sem β}:PX ce X R t (λ _ _=>.stuck):=λ _ _ _ _ _ _ _ _ _ _ K=>(show False from K).elim
theorem J1i {t:Sem β}{m:ISt->IH->Res α}(hh:∀σi h,∃m',m σi h=m' σi h/\PX ce X R t m'):PX ce X R t m:=by
 intro pj s σ H ι σi h Q E N K
 obtain⟨m',e,p⟩:=hh σi h
 rw[e] at K
 exact p pj s σ H ι σi h Q E N K
theorem XR {tg e:Expr}:PIi ce X tg e stI:=λ _ _ _ _ _ _ _ _ _ _ K=>(show False from K).elim
theorem Jff {e:Expr}:PGi ce X e stG:=λ _ _ _ _ _ _ _ _ _ _ _ _ _ K=>(show False from K).elim
theorem J9 {t:Sem Flow}:PSi ce X t stS:=λ _ _ _ _ _ _ _ _ _ _ K=>(show False from K).elim
theorem XI {x:Str}:∀{l:List Str}{i:Nat},ixOf x l=Za i->l[i]?=Za x
 | [],_,h=>by cases h
 | y::r,i,h=>by
  unfold ixOf at h
  split at h
  ·rename_i e
   cases h
   simp[beq_iff_eq.mp e]
  ·obtain⟨j,hj,rfl⟩:=Z5.mp h
   simpa using XI hj
theorem Good.kind (G:Good ce k P S X)(x:Str):X.env.kindOf x=S.names.lookup x:=by
 show X.env.scope.names.lookup x=_
 rw[G.sc]
theorem Good.vis (G:Good ce k P S X){x:Str}{i:Nat}(h:S.vis x=Za i):X.N[i]?=Za x/\Vis X.env.scope x/\(x==("__debug__":Str))=Zj/\(x==("__classdict__":Str))=Zj:=by
 unfold Sc.vis at h
 have fin:∀{o:Zbb},(o=.local∨o=.cell∨o=.free)->S.names.lookup x=Za o->(if (x==("__debug__":Str)||x==("__classdict__":Str))=Ze then Zb else ixOf x S.N)=Za i ->
   X.N[i]?=Za x/\Vis X.env.scope x/\(x==("__debug__":Str))=Zj/\(x==("__classdict__":Str))=Zj:=λ ho e h=>by
  split at h
  ·cases h
  ·rename_i hd
   have hd':=ZaX.mpr hd
   rw[ZcX] at hd'
   refine⟨by rw[G.n];exact XI h,?_,hd'.1,hd'.2⟩
   unfold Vis
   rw[G.sc,e]
   rcases ho with rfl|rfl|rfl
   ·exact .inl rfl
   ·exact .inr (.inl rfl)
   ·exact .inr (.inr rfl)
 cases e:S.names.lookup x with
 | none=>rw[e] at h;cases h
 | some o =>
  rw[e] at h
  cases o with
  | «local» =>exact fin (.inl rfl) e h
  | cell=>exact fin (.inr (.inl rfl)) e h
  | free=>exact fin (.inr (.inr rfl)) e h
  | _=>cases h
theorem Good.gl (G:Good ce k P S X){x:Str}(h:S.gl x=Ze):Gl X x/\(x==("__debug__":Str))=Zj/\x≠"__name__":=by
 unfold Sc.gl at h
 simp only[Zl,beq_iff_eq,ZaH] at h
 refine⟨?_,h.1.2,λ e=>?_⟩
 ·show X.env.kindOf x=_
  rw[G.kind]
  exact h.1.1
 ·have:=h.2
  rw[e] at this
  exact absurd this (by decide)
theorem Good.sto (G:Good ce k P S X){x:Str}{i:Nat}(h:S.sto x=Za i):X.N[i]?=Za x/\Loc X.env.scope x/\(X.fn x=Ze∨X.env.scope.names.lookup x=Za .local):=by
 unfold Sc.sto at h
 unfold L2.Loc
 rw[G.sc]
 cases e:S.names.lookup x with
 | none=>rw[e] at h;cases h
 | some o =>
  rw[e] at h
  cases o with
  | «local» =>exact⟨by rw[G.n];exact XI h,.inl rfl,.inr rfl⟩
  | cell =>
   dsimp only at h
   split at h
   ·rename_i ho
    exact⟨by rw[G.n];exact XI h,.inr rfl,.inl (G.st ho x)⟩
   ·cases h
  | _=>cases h
theorem Good.nodup (G:Good ce k P S X):X.N.Nodup:=by rw[G.n];exact G.nd
theorem Ju {a:Expr}{es:List Expr}{env:Env}(h:Jp a=Ze):Z9 (a::es) env=(Zj,ZaJ a env)::Z9 es env:=by
 cases a<;>first|rfl|cases h
theorem VH {pos:Pos}{env:Env}:∀{es:List Expr},es.all Jp=Ze->(ZaU pos (Z9 es env)).any (·.1)=Zj
 | [],_=>rfl
 | a::es,h=>by
  simp only[ZY,Zl] at h
  rw[Ju h.1]
  show(Zj||(ZaU pos (Z9 es env)).any (·.1))=Zj
  rw[VH h.2]<;>rfl
theorem Jgn {pos:Pos}{env:Env}:∀{es:List Expr},es.all Jp=Ze->(ZaU pos (Z9 es env)).all (λ x=>!x.1)=Ze
 | [],_=>rfl
 | a::es,h=>by
  simp only[ZY,Zl] at h
  rw[Ju h.1]
  show(Ze&&(ZaU pos (Z9 es env)).all (λ x=>!x.1))=Ze
  rw[Jgn h.2]<;>rfl
theorem Joq {pos:Pos}{env:Env}{es:List Expr}(ha:es.all Jp=Ze)(hn:es.length<30):((ZaU pos (Z9 es env)).all (λ x=>!x.1)&&(ZdO pos (Zc5 [] env)).all (λ x=>x.1.isSome)
   && decide (es.length+([]:List Zdj).length+(if ([]:List Zdj).isEmpty then 0 else 1)<30))=Ze:=by
 show((ZaU pos (Z9 es env)).all (λ x=>!x.1)&&Ze&&decide (es.length+0+0<30))=Ze
 rw[Jgn ha]
 simpa using hn
theorem Xz:∀(l:List E1),ALen l.length (aAll l)
 | []=>Jq2
 | _::r=>Jnj (Xz r)
theorem Qw {f:Expr->E1}:∀{es:List Expr},es.all Jp=Ze->(∀e,PEi ce X e (f e))->PAi ce X es (aAll (es.map f))
 | [],_,_=>Qb
 | a::es,h,hf=>by
  simp only[ZY,Zl] at h
  exact JX (hf a) (Qw h.2 hf) (Ju h.1)
theorem Jn9 {f:Expr->E1}{pos:Pos}(hf:∀e,PEi ce X e (f e)):∀(vs:List Expr),PEi ce X (.BoolOp .And vs pos) (Jrd (vs.map f))
 | []=>Jg
 | [a]=>Jyd (hf a)
 | a::b::r=>J0v VI (hf a) (Jn9 hf (b::r))
theorem Juw {f:Expr->E1}{pos:Pos}(hf:∀e,PEi ce X e (f e)):∀(vs:List Expr),PEi ce X (.BoolOp .Or vs pos) (eOrs (vs.map f))
 | []=>Jg
 | [a]=>Jyd (hf a)
 | a::b::r=>i_or VI (hf a) (Juw hf (b::r))
theorem Jp2 {f:Expr->T1}{pos:Pos}(hf:∀e,PTi ce X e (f e)):∀(vs:List Expr),PWi ce X (.BoolOp .And vs pos) (Js4 (vs.map f))
 | []=>λ _=>Jg
 | [a]=>Jwq (hf a)
 | a::b::r=>Jzw (hf a) (Jp2 hf (b::r))
theorem Jwp {f:Expr->T1}{pos:Pos}(hf:∀e,PTi ce X e (f e)):∀(vs:List Expr),PWi ce X (.BoolOp .Or vs pos) (tOrs (vs.map f))
 | []=>λ _=>Jg
 | [a]=>Jzx (hf a)
 | a::b::r=>J1q (hf a) (Jwp hf (b::r))
theorem Jtr {f:Expr->G1}:∀{es:List Expr},es.all Jp=Ze->(∀e,PGi ce X e (f e))->PGsi ce X es (gAll (es.map f))
 | [],_,_=>Jxw
 | a::es,h,hf=>by
  simp only[ZY,Zl] at h
  refine Ju4 (hf a) (Jtr h.2 hf) ?_
  cases a<;>first|rfl|exact absurd h.1 Zp
theorem Jti {env:Env}:∀{es:List Expr},es.all Jp=Ze->(ZaF es env).length=es.length
 | [],_=>rfl
 | a::es,h=>by
  simp only[ZY,Zl] at h
  have:ZaF (a::es) env=(Zj,Zel a env)::ZaF es env:=by cases a<;>first|rfl|exact absurd h.1 Zp
  rw[this,ZC,ZC,Jti h.2]
theorem Jnp {env:Env}:∀{es:List Expr},es.all Jp=Ze->(ZaF es env).findIdx? (·.1)=Zb
 | [],_=>rfl
 | a::es,h=>by
  simp only[ZY,Zl] at h
  have:ZaF (a::es) env=(Zj,Zel a env)::ZaF es env:=by cases a<;>first|rfl|exact absurd h.1 Zp
  rw[this,Zdw,Jnp h.2]
  rfl
theorem Jyz (op:Operator):OpI ce X (ZaQ op) (binI op):=by
 cases op with
 | Add=>exact J04
 | Sub=>exact J09
 | Mult=>exact Jy1
 | FloorDiv=>exact Jy0
 | Mod=>exact J06
 | Pow=>exact J08
 | _=>exact λ _ _ _ _ _ _ _ _ _ _ _ _ _ _ _ _ K=>(show False from K).elim
theorem VD (hu:X.A.units+64<Zet)(op:CmpOp):OpI ce X (Zak op) (cmpI op):=by
 cases op with
 | Lt=>exact o_lt
 | LtE=>exact o_le
 | Gt=>exact o_gt
 | GtE=>exact o_ge
 | Eq=>exact o_eq hu
 | NotEq=>exact o_ne hu
 | Is=>exact o_is
 | IsNot=>exact Jvz
 | In=>exact o_in hu
 | NotIn=>exact Jv0 hu
theorem Jt0 {ne:Str->Bool}(hu:X.A.units+64<Zet)(hn:∀c,ne c=Ze->∃C,ce c=Za C/\neIn X.K C=Ze)(op:CmpOp)(b:Expr):OpI ce X (Zak op) (cmpD ne op b):=by
 unfold cmpD
 split
 ·split
  ·exact J05
  ·exact o_in hu
 ·exact VD hu op
theorem J1z (a:Expr):IxI ce X (ixD a):=by
 unfold ixD
 split
 ·exact J1y
 ·exact x_ix
theorem o_un (op:UnaryOp):UnI ce X (unaryOp op) (unI op):=by
 cases op with
 | Not=>exact Jwr VI
 | USub=>exact J1r
 | _=>exact λ _ _ _ _ _ _ _ _ _ _ _ _ _ K=>(show False from K).elim
theorem VV {o:Expr}{m:Str}{env:Env}{w:Sem Zd}(h:Qx o=Ze):Zcs o m env w=w:=by
 cases o with
 | Call f as ks p =>
  cases f with
  | Name x q =>
   cases as with
   | nil =>
    cases ks with
    | nil=>cases h
    | cons _ _=>rfl
   | cons _ _=>rfl
  | _=>rfl
 | _=>rfl
theorem VY {e:Expr}{env:Env}(h:VC e=Ze)(x:Zd):Zb3 e env x=pure x:=by
 cases e<;>first|rfl|cases h
theorem Xn {e:Expr}{t:Option Expr}{l:Nat}{env:Env}(h:QE e=Ze):Zc4 e t l env=pure Zj:=by
 cases e<;>first|rfl|cases h
theorem Jlg {i:Expr}(h:Jhz i=Ze):Jnh i:=λ _ _=>by
 cases i<;>first|rfl|cases h
theorem Jgi {o:Expr}{m:Str}{ap pos:Pos}{es:List Expr}{env:Env}(hb:Qx o=Ze)(hs:es.all Jp=Ze)(hl:(ap.endLine==pos.line)=Ze)(hn:es.length<30) :
  ZaJ (.Call (.Attribute o m ap) es [] pos) env=(do
   let ov<-ZaJ o env
   Ze8 ap.atName
   let (f,first)<-Zdk [ov] (ZdG ov m (do return(<- importBound o env).getD Ze))
   callWith pos f first (ZaU pos (Z9 es env)) (ZdO pos (Zc5 [] env))):=by
 have hform:methodCallForm (es.length+([]:List Zdj).length) (ZaU pos (Z9 es env)) (ZdO pos (Zc5 [] env))=Ze:=by
  show((ZaU pos (Z9 es env)).all (λ x=>!x.1)&&Ze&&decide (es.length+0+0<30))=Ze
  rw[Jgn hs]
  simpa using hn
 have hpos:methodCallPos Ze o env ap pos=pure pos:=by unfold methodCallPos;simp[hl]
 rw[arm_eval_Call,VV hb]
 unfold methodCall
 rw[hform,hpos]
 rfl
end
section
variable {ce:CeT}{k:Nat}{P:Pg}{S:Sc}{X:Cx}
theorem Jf4 (G:Good ce k P S X)(N0 l c:List Str)(js:List Nat)(sc:Zba):JY N0 l c js X.env.scope sc=JY N0 l c js S.fake sc:=by
 unfold JY
 rw[G.fk,G.sc]
 rfl
theorem Good.comp (G:Good ce k P S X){sc:Zba}(h:JY S.N (Qh sc) (JV sc) (jsOf S sc) S.fake sc=Ze)(C:Zi)(s:Zk)(H:Hp)(fp:List Zi):Good ce k P (S.comp sc) (cxC X (Qh sc++JV sc) sc C s H fp):=by
 simp only[JY,Zl,decide_eq_true_eq] at h
 obtain⟨⟨⟨⟨⟨⟨⟨⟨⟨kF,kF0⟩,kNC⟩,kL⟩,kFr⟩,kFx⟩,kJ⟩,kLen⟩,kNd⟩,kLo⟩:=h
 refine⟨rfl,?_,kNd,kF,G.calm,G.room,λ z=>absurd z Zp,G.pg,λ z=>absurd z Zp,λ z=>absurd z Zp,λ z=>absurd z Zp⟩
 show(relabel sc X.env).names=_
 unfold relabel Sc.comp
 dsimp only
 refine List.map_congr_left λ x _=>?_
 obtain⟨n,kd⟩:=x
 dsimp only
 rw[G.fk,G.kind]
 simp
end
structure Snd (ce:CeT)(k:Nat)(P:Pg)(n:Nat):Prop where
 e:∀S X e,Good ce k P S X->PEi ce X e (ev P n S e)
 t:∀S X e,Good ce k P S X->PTi ce X e (evT P n S e)
 o:∀S X e,Good ce k P S X->PPi ce X e (evO P n S e)
 c:∀S X x args p pos,Good ce k P S X->S.gl x=Ze->args.all Jp=Ze->PEi ce X (.Call (.Name x p) args [] pos) (Joa P n S x args)
 i:∀S X tg e,Good ce k P S X->PIi ce X tg e (evI P n S tg e)
 g:∀S X e,Good ce k P S X->PGi ce X e (tgt P n S e)
section
variable {ce:CeT}{k:Nat}{P:Pg}{n:Nat}{S:Sc}{X:Cx}
theorem Js2:Snd ce k P 0:=⟨λ _ _ _ _=>Jg,λ _ _ _ _=>Jg,λ _ _ _ _=>Jg,λ _ _ _ _ _ _ _ _ _=>Jg,λ _ _ _ _ _=>XR,λ _ _ _ _=>Jff⟩
theorem Jhq {prog:ZA}{w:ZM}{K:W.Frag}{mg:Str->Option Zd}{base:ZT}{f:Fn}{fa:Zi}{fd:Zam}{ps:List Str}{m:Nat}{d:List IV}(D:FnD ce prog w K mg base k f fa fd ps)(h:f.fill m=Za d) :
  ∃ds,JL K fd ps ds/\m+ds.length=ps.length/\∃vs,Vals vs ds/\∀ι H,RVs K ι H d vs:=by
 unfold Fn.fill at h
 split at h
 ·rename_i hz
  cases h
  obtain⟨ds,hb,hl,q⟩:=D.dv (f.dvs.length-(f.np-m)) (by omega)
  exact⟨ds,hb,by rw[hl,D.len];omega,q⟩
 ·cases h
theorem Jsy (G:Good ce k P S X){x:Str}{f:Fn}(hx:P.fn x=Za f)(hg:S.gl x=Ze){args:List Expr}(ha:args.all Jp=Ze){g:Expr->E1}(hf:∀e,PEi ce X e (g e)){p pos:Pos} :
  PEi ce X (.Call (.Name x p) args [] pos) (Jk9 f args.length (aAll (args.map g))):=by
 obtain⟨fa,fd,ps,hm,hk,D⟩:=G.pg.fn x f hx
 obtain⟨gl,hdb,_⟩:=G.gl hg
 unfold Jk9
 cases hd:f.fill args.length with
 | none=>exact Jg
 | some d =>
  obtain⟨ds,hb,hl,q⟩:=Jhq D hd
  have hr:Room k X.A:=G.room.mono (Zao k)
  cases args with
  | nil=>exact Jvb D.ok hr gl hm hk hb q (by simpa using hl) hdb
  | cons a es =>
   have ha':=ha
   simp only[ZY,Zl] at ha'
   refine Jx0 D.ok hr gl hm hk hb q (Qw ha hf) (λ σ h xs h' e=>?_) hdb (Ju ha'.1) (VH ha'.2)
   have:=Xz _ σ h xs h' e
   rw[Zo] at this
   rw[this]
   exact hl
theorem Jsz (G:Good ce k P S X){x:Str}{f:Fn}(hx:P.cls x=Za f)(hg:S.gl x=Ze){args:List Expr}(ha:args.all Jp=Ze){g:Expr->E1}(hf:∀e,PEi ce X e (g e)){p pos:Pos} :
  PEi ce X (.Call (.Name x p) args [] pos) (Jlb x f args.length (aAll (args.map g))):=by
 obtain⟨C,fa,fd,ps,hm,hC,M,D⟩:=G.pg.cls x f hx
 obtain⟨gl,hdb,_⟩:=G.gl hg
 unfold Jlb
 cases hd:f.fill (args.length+1) with
 | none=>exact Jg
 | some d =>
  obtain⟨ds,hb,hl,q⟩:=Jhq D hd
  cases args with
  | nil=>exact Jvh M D.ok hC G.room gl hm hb q (by simp at hl;omega) hdb
  | cons a es =>
   have ha':=ha
   simp only[ZY,Zl] at ha'
   refine Jx8 M D.ok hC G.room gl hm hb q (Qw ha hf) (λ σ h xs h' e=>?_) hdb (Ju ha'.1) (VH ha'.2)
   have:=Xz _ σ h xs h' e
   rw[Zo] at this
   omega
theorem Jn7 (G:Good ce k P S X)(m:Str)(n:Nat):Jng ce X m n (Vf P m n):=by
 intro c f dvs h
 unfold Vf at h
 cases hm:P.meth c m with
 | none=>rw[hm] at h;cases h
 | some fn =>
  rw[hm] at h
  dsimp only at h
  cases hd:fn.fill (n+1) with
  | none=>rw[hd] at h;cases h
  | some d =>
   rw[hd] at h
   cases h
   obtain⟨C,fa,fd,ps,hC,hcl,hM,D⟩:=G.pg.meth c m fn hm
   obtain⟨ds,hb,hl,q⟩:=Jhq D hd
   exact⟨C,fa,fd,k,ps,ds,hC,hcl,hM,D.ok,G.room.mono (Zao k),hb,q,by omega⟩
theorem J0k {T:String}{m:Str}{n:Nat}{g:IV->List IV->IH->Res IV}(h:bmOf T m n=Za g):∃id,PlainAttrs T/\Slot T m id/\ZdT (.builtin id)=pure (.type "method_descriptor")/\MtI ce X T id g:=by
 unfold bmOf at h
 split at h
 ·rename_i hm
  simp only[Zl,beq_iff_eq] at hm
  obtain⟨⟨rfl,rfl⟩,_⟩:=hm
  cases h
  exact⟨_,Zbm,PySem.F.slot_list_append,PySem.F.type_list_append,Jr9⟩
 ·split at h
  ·rename_i hm
   simp only[Zl,beq_iff_eq] at hm
   obtain⟨⟨rfl,rfl⟩,_⟩:=hm
   cases h
   exact⟨_,Zbm,PySem.F.slot_list_pop,PySem.F.type_list_pop,J02⟩
  ·split at h
   ·rename_i hm
    simp only[Zl,beq_iff_eq] at hm
    obtain⟨⟨rfl,rfl⟩,_⟩:=hm
    cases h
    exact⟨_,Zbm,PySem.F.slot_list_extend,PySem.F.type_list_extend,Jsa⟩
   ·split at h
    ·rename_i hm
     simp only[Zl,beq_iff_eq] at hm
     obtain⟨⟨rfl,rfl⟩,_⟩:=hm
     cases h
     exact⟨_,Zbm,PySem.F.slot_list_remove,PySem.F.type_list_remove,Jsc⟩
    ·split at h
     ·rename_i hm
      simp only[Zl,beq_iff_eq] at hm
      obtain⟨⟨rfl,rfl⟩,_⟩:=hm
      cases h
      exact⟨_,PySem.F.plainAttrs_dict,Zdb,PySem.F.type_dict_setdefault,Jsd⟩
     ·cases h
theorem Jzr {o:Expr}{m:Str}{mo:E1}{args:List Expr}{f:Expr->E1}{ap pos:Pos}{T:String}{g:IV->List IV->IH->Res IV}{n:Nat}(hg:bmOf T m n=Za g)(ho:PEi ce X o mo)(hf:∀e,PEi ce X e (f e))(ha:args.all Jp=Ze)(hb:Qx o=Ze)(hl:(ap.endLine==pos.line)=Ze)(hn:args.length<30) :
  PEi ce X (.Call (.Attribute o m ap) args [] pos) (eBm T g mo (aAll (args.map f))):=by
 obtain⟨id,pa,sl,ty,mt⟩:=J0k (ce:=ce) (X:=X) hg
 cases args with
 | nil=>exact J0w pa sl ty mt ho (VV hb) hl
 | cons a es =>
  have ha':=ha
  simp only[ZY,Zl] at ha'
  exact i_bm pa sl ty mt ho (Qw ha hf) (VV hb) (Joq ha hn) hl (Ju ha'.1) (VH ha'.2)
theorem Jwl (G:Good ce k P S X){o:Expr}{m:Str}{mo:E1}{args:List Expr}{f:Expr->E1}{ap pos:Pos}(ho:PEi ce X o mo)(hf:∀e,PEi ce X e (f e))(ha:args.all Jp=Ze)(hb:Qx o=Ze)(hl:(ap.endLine==pos.line)=Ze)(hn:args.length<30) :
  PEi ce X (.Call (.Attribute o m ap) args [] pos) (J1 P m args.length mo (aAll (args.map f))):=by
 refine J1i λ σi h=>?_
 unfold J1
 cases e:mo σi h with
 | exc n h1=>exact⟨λ _ _=>.stuck,rfl,Jg⟩
 | stuck=>exact⟨λ _ _=>.stuck,rfl,Jg⟩
 | ok v h1 =>
  dsimp only
  split
  ·refine⟨_,rfl,?_⟩
   cases args with
   | nil=>exact Jvj ho (Jn7 G m 0) (Jgi hb ha hl hn)
   | cons a es =>
    have ha':=ha
    simp only[ZY,Zl] at ha'
    refine Jyb ho (Jn7 G m (a::es).length) (Qw ha hf) (λ σ h xs h' e=>?_) (Ju ha'.1) (VH ha'.2) (Jgi hb ha hl hn)
    have:=Xz _ σ h xs h' e
    rwa [Zo] at this
  ·cases hg:bmOf (tyS v h1) m args.length with
   | none=>exact⟨λ _ _=>.stuck,rfl,Jg⟩
   | some g=>exact⟨_,rfl,Jzr hg ho hf ha hb hl hn⟩
theorem Jpt (G:Good ce k P S X){o:Expr}{m:Str}{e:E1}{args:List Expr}{f:Expr->E1}{ap pos:Pos}(he:PEi ce X (.Call (.Attribute o m ap) args [] pos) e)(hf:∀e,PEi ce X e (f e))(ha:args.all Jp=Ze)(hb:Qx o=Ze)(hl:(ap.endLine==pos.line)=Ze)(hn:args.length<30) :
  PEi ce X (.Call (.Attribute o m ap) args [] pos) (Jrf P S m args.length o (aAll (args.map f)) e):=by
 unfold Jrf
 split
 ·rename_i hq
  cases o with
  | Name x q =>
   simp only[Jum,Zl,beq_iff_eq,decide_eq_true_eq] at hq
   obtain⟨⟨⟨rfl,hg⟩,hx⟩,hz⟩:=hq
   obtain⟨D,hm,B⟩:=G.pg.xb x hx
   obtain⟨gl,hdb,_⟩:=G.gl hg
   cases args with
   | nil=>exact absurd rfl hz
   | cons a es =>
    have ha':=ha
    simp only[ZY,Zl] at ha'
    refine Jva (λ c C hc hC=>?_) gl hm B (Qw ha hf) hdb (Ju ha'.1) (VH ha'.2) (Jgi hb ha hl hn)
    obtain⟨g,hg⟩:=Za0.mp hc
    obtain⟨C',fa,fd,ps,_,c2,c3,_⟩:=G.pg.xo c g hg
    rw[hC] at c2
    cases c2
    exact⟨fa,c3⟩
  | _=>simp[Jum] at hq
 ·exact he
theorem Jwm (G:Good ce k P S X){a:Expr}{ma:E1}{y:Str}{p p2 pos:Pos}(ha:PEi ce X a ma)(hs:Jp a=Ze)(hg:S.gl "isinstance"=Ze)(hfr:P.free "isinstance"=Ze)(hy:S.gl y=Ze) :
  PEi ce X (.Call (.Name "isinstance" p) [a,.Name y p2] [] pos) (Juu (Jq4 P y) ma):=by
 unfold Juu
 cases e:Jq4 P y with
 | none=>exact Jg
 | some ans =>
  obtain⟨gy,ydb,yn⟩:=G.gl hy
  have fin:∀{c:Zd},ClsE X (.Name y p2) c->IsOk ce X.K c ans->PEi ce X (.Call (.Name "isinstance" p) [a,.Name y p2] [] pos) (eIsi ans ma):=λ hc O =>
   Jx6 hc O ha (G.gl hg).1 (G.pg.free _ hfr) rfl (Ju hs) rfl rfl
  unfold Jq4 at e
  cases hi:P.isa y with
  | some g =>
   rw[hi] at e
   cases e
   obtain⟨c,hm,O⟩:=G.pg.isa y g hi
   exact fin (Jj5 gy hm ydb) O
  | none =>
   rw[hi] at e
   dsimp only at e
   split at e
   ·rename_i hf
    have hm:=G.pg.free y hf
    split at e
    ·rename_i q;cases (beq_iff_eq.mp q);cases e;exact fin (V9 gy hm rfl yn ydb) Jry
    ·split at e
     ·rename_i q;cases (beq_iff_eq.mp q);cases e;exact fin (V9 gy hm rfl yn ydb) Joz
     ·split at e
      ·rename_i q;cases (beq_iff_eq.mp q);cases e;exact fin (V9 gy hm rfl yn ydb) Jrz
      ·split at e
       ·rename_i q
        cases (beq_iff_eq.mp q)
        cases e
        refine fin (V9 gy hm rfl yn ydb) ?_
        split
        ·rename_i q
         refine Jms λ C hC=>?_
         obtain⟨C',h1,_,h2⟩:=G.pg.ne _ q
         cases hC.symm.trans h1
         exact h2
        ·exact Jjd
       ·split at e
        ·rename_i q;cases (beq_iff_eq.mp q);cases e;exact fin (V9 gy hm rfl yn ydb) Jr0
        ·cases e
   ·cases e
theorem Jsw (G:Good ce k P S X){a:Expr}{ma:E1}{x:Str}{p pos:Pos}(ha:PEi ce X a ma)(hs:Jp a=Ze)(hg:S.gl x=Ze)(hfr:P.free x=Ze)(hx:Jox x=Ze) :
  PEi ce X (.Call (.Name x p) [a] [] pos) (eCB (bltF x) (Jb ma Jd)):=by
 obtain⟨gx,xdb,xn⟩:=G.gl hg
 have hm:=G.pg.free x hfr
 have hh:=G.room.hd
 have pa:PAi ce X [a] (Jb ma Jd):=JX ha Qb (Ju hs)
 unfold Jox at hx
 simp only[Zaq,beq_iff_eq] at hx
 rcases hx with(((rfl|rfl)|rfl)|rfl)|rfl
 ·exact Vt Jxl gx hm rfl pa xn xdb (Ju hs) rfl
 ·exact Vt (J0l hh) gx hm rfl pa xn xdb (Ju hs) rfl
 ·exact Vt (J0o hh) gx hm rfl pa xn xdb (Ju hs) rfl
 ·exact Vt Jq7 gx hm rfl pa xn xdb (Ju hs) rfl
 ·exact Vt (Jxn hh) gx hm rfl pa xn xdb (Ju hs) rfl
theorem Jsx (G:Good ce k P S X){a:Expr}{ma:E1}{x:Str}{p pos:Pos}(ha:PEi ce X a ma)(hs:Jp a=Ze)(hg:S.gl x=Ze)(hfr:P.free x=Ze)(hx:Joy x=Ze) :
  PEi ce X (.Call (.Name x p) [a] [] pos) (eCB (bltT x) (Jb ma Jd)):=by
 obtain⟨gx,xdb,xn⟩:=G.gl hg
 have hm:=G.pg.free x hfr
 have pa:PAi ce X [a] (Jb ma Jd):=JX ha Qb (Ju hs)
 unfold Joy at hx
 simp only[Zaq,beq_iff_eq] at hx
 rcases hx with rfl|rfl
 ·exact Jos Jxm gx hm rfl pa xn xdb (Ju hs) rfl
 ·exact Jos Jun gx hm rfl pa xn xdb (Ju hs) rfl
theorem Jpu (G:Good ce k P S X){f:Expr->E1}(hf:∀e,PEi ce X e (f e)){x:Str}{args:List Expr}{p pos:Pos}(hg:S.gl x=Ze)(ha:args.all Jp=Ze)(hfr:P.free x=Ze) :
  PEi ce X (.Call (.Name x p) args [] pos) (Jhm P S x f args):=by
 unfold Jhm
 split
 ·rename_i a b
  simp only[ZY,Zl] at ha
  obtain⟨gx,xdb,xn⟩:=G.gl hg
  have hm:=G.pg.free x hfr
  have pa:PAi ce X [a,b] (Jb (f a) (Jb (f b) Jd)):=JX (hf a) (JX (hf b) Qb (Ju ha.2.1)) (Ju ha.1)
  have h1:∀pos,(ZaU pos (Z9 [b] X.env)).any (·.1)=Zj:=λ pos=>VH (by simp[ha.2.1])
  split
  ·rename_i hs
   cases (beq_iff_eq.mp hs)
   exact Vt (J0m G.calm) gx hm rfl pa xn xdb (Ju ha.1) (h1 _)
  ·split
   ·rename_i hs
    cases (beq_iff_eq.mp hs)
    exact Vt (J0n G.calm) gx hm rfl pa xn xdb (Ju ha.1) (h1 _)
   ·split
    ·rename_i y p2 _
     split
     ·rename_i hs
      simp only[Zl,beq_iff_eq] at hs
      obtain⟨rfl,hy⟩:=hs
      exact Jwm G (hf a) ha.1 hg hfr hy
     ·exact Jg
    ·exact Jg
 ·rename_i a
  simp only[ZY,Zl] at ha
  split
  ·rename_i e he
   split at he
   ·rename_i hc
    simp only[Zl,beq_iff_eq] at hc
    obtain⟨⟨rfl,g2⟩,f2⟩:=hc
    unfold Jt6 at he
    split at he
    ·split at he
     ·rename_i hq
      simp only[Zl,beq_iff_eq] at hq
      obtain⟨rfl,ns⟩:=hq
      cases he
      exact Jrv G.room.hd (G.gl hg).1 (G.pg.free _ hfr) (G.gl g2).1 (G.pg.free _ f2) (JX (hf e) Qb (Ju ns)) (Ju ns)
     ·cases he
    ·cases he
   ·cases he
  ·split
   ·rename_i e he
    split at he
    ·rename_i hc
     simp only[Zl,beq_iff_eq] at hc
     obtain⟨⟨rfl,g2⟩,f2⟩:=hc
     unfold Jt1 at he
     split at he
     ·split at he
      ·rename_i hq
       simp only[Zl,beq_iff_eq] at hq
       obtain⟨rfl,ns⟩:=hq
       cases he
       exact Jou G.room.hd (G.gl hg).1 (G.pg.free _ hfr) (G.gl g2).1 (G.pg.free _ f2) (JX (hf e) Qb (Ju ns)) (Ju ns)
      ·cases he
     ·cases he
    ·cases he
   ·split
    ·rename_i hb
     exact Jsw G (hf a) ha.1 hg hfr hb
    ·split
     ·rename_i hb
      exact Jsx G (hf a) ha.1 hg hfr hb
     ·exact Jg
 ·exact Jg
theorem VB.of (G:Good ce k P S X){y:Str}{sc:Zba}(h:VB S y sc=Ze):LamSc X.N X.env.scope.names y (JV sc) (jsOf S sc) sc:=by
 rw[G.n,G.sc]
 simp only[VB,Zl,beq_iff_eq,ZaH,decide_eq_true_eq,ZcR,Zaq,beq_eq_false_iff_ne] at h
 obtain⟨⟨⟨⟨⟨⟨⟨h1,h2⟩,h3⟩,h4⟩,h5⟩,h6⟩,h7⟩,h8⟩:=h
 refine⟨h1,h2,h3,h4,h5,λ z hz e=>(h6 z hz).resolve_left λ q=>q e,λ z e=>ZV e,λ i j z ej ez=>?_,by simp[jsOf],h8⟩
 unfold jsOf at ej
 rw[Z0,ez] at ej
 cases ej
 exact h7 z (Zcb ez)
theorem Good.lam (G:Good ce k P S X)(ho:S.own=Ze){y:Str}{sc:Zba}(h:VB S y sc=Ze)(f:Zi)(cd:Zd)(s:Zk)(H:Hp):Good ce k P (S.lam y sc) (cxL X X.A.in1 (y::JV sc) S.q sc f cd s H):=by
 have L:=VB.of G h
 exact⟨rfl,rfl,L.nd,L.kind,rfl,(G.room3 ho).in1.deeper _,λ z=>absurd z Zp,G.pg,λ z=>absurd z Zp,λ z=>absurd z Zp,λ z=>absurd z Zp⟩
theorem Jzs (G:Good ce k P S X){f:Sc->Expr->E1}(hf:∀S X e,Good ce k P S X->PEi ce X e (f S e)){x:Str}{args:List Expr}{kws:List Zdj}{p pos:Pos}:PEi ce X (.Call (.Name x p) args kws pos) (Jo3 P S f x args kws):=by
 unfold Jo3
 split
 ·split
  ·rename_i hq
   simp only[Zl,beq_iff_eq] at hq
   obtain⟨⟨⟨⟨rfl,rfl⟩,g1⟩,f1⟩,ns⟩:=hq
   exact Jx9 G.room.hd (G.gl g1).1 (G.pg.free _ f1) (JX (hf _ _ _ G) Qb (Ju ns)) (hf _ _ _ G) (Ju ns)
  ·exact Jg
 ·split
  ·rename_i y j hy hj
   split
   ·rename_i hq
    simp only[Zl,beq_iff_eq] at hq
    obtain⟨⟨⟨⟨⟨⟨⟨rfl,rfl⟩,rfl⟩,g1⟩,f1⟩,ns⟩,ho⟩,ok⟩:=hq
    exact Jya (k:=k+1) (G.gl g1).1 (G.pg.free _ f1) (JX (hf _ _ _ G) Qb (Ju ns)) (hf _ _ _ G) (Ju ns) (G.room3 ho) (G.code ho).1 (G.code ho).2 (G.pg.blt _ _ hj) hy (VB.of G ok) λ f cd s' H'=>hf _ _ _ (G.lam ho ok f cd s' H')
   ·exact Jg
  ·exact Jg
 ·exact Jg
theorem Jr1 {st:Expr}(h:isP2 st=Ze):∃j p,st=.Constant (.int 2) j p:=by
 unfold isP2 at h
 split at h
 ·exact⟨_,_,rfl⟩
 ·cases h
theorem Js1 (ih:Snd ce k P n):Snd ce k P (n+1):=by
 refine⟨λ S X e G=>?_,λ S X e G=>?_,λ S X e G=>?_,λ S X x args p pos G hg ha=>?_,λ S X tg e G=>?_,λ S X e G=>?_⟩
 ·have ihe:=λ e=>ih.e S X e G
  have hu:=G.room.units
  cases e with
  | Constant c j p =>
   cases c with
   | int i=>exact Jvf
   | bool b=>exact i_bl
   | none=>exact Jyc
   | str x=>exact Jye
   | _=>exact Jg
  | Name x p =>
   show PEi ce X (.Name x p) (match S.vis x with|some i=>Ja i|none=>if S.gl x then(match P.con x with|some v=>eC v|none=>stE) else stE)
   cases hv:S.vis x with
   | some i =>
    obtain⟨h1,h2,h3,h4⟩:=G.vis hv
    exact Jvl i h1 h2 h3 h4
   | none =>
    dsimp only
    split
    ·rename_i hg
     obtain⟨gx,xdb,_⟩:=G.gl hg
     cases hc:P.con x with
     | none=>exact Jg
     | some v =>
      obtain⟨u,y,hm,r,q⟩:=G.pg.con x v hc
      exact Jx5 gx hm r q xdb
    ·exact Jg
  | BinOp a op b p=>exact Jxz (Jyz op) (ihe a) (ihe b)
  | UnaryOp op a p=>exact i_un (o_un op) (ihe a)
  | BoolOp op vs p =>
   cases op with
   | And=>exact Jn9 ihe vs
   | Or=>exact Juw ihe vs
  | IfExp t a b p=>exact Jve (ih.t S X t G) (ihe a) (ihe b)
  | Compare a ops cs p =>
   match ops,cs with
   | [o],[b] =>
    show PEi ce X _ (if Zbf o b then stE else Jc (cmpD P.ne o b) (ev P n S a) (ev P n S b))
    split
    ·exact Jg
    ·rename_i hb
     exact Jx1 (Jt0 hu (λ c z=>let ⟨C,p,q,_⟩:=G.pg.ne c z;⟨C,p,q⟩) o b) (ihe a) (ihe b) (ZaX.mpr hb)
   | [o,o'],[b,c] =>
    show PEi ce X _ (if ZdL [o,o'] [b,c] then stE else QB (cmpI o) (cmpI o') (ev P n S a) (ev P n S b) (ev P n S c))
    split
    ·exact Jg
    ·rename_i hb
     exact Jvc (VD hu o) (VD hu o') (ihe a) (ihe b) (ihe c) (ZaX.mpr hb)
   | [],_=>exact Jg
   | [_],[]=>exact Jg
   | [_],_::_::_=>exact Jg
   | [_,_],[]=>exact Jg
   | [_,_],[_]=>exact Jg
   | [_,_],_::_::_::_=>exact Jg
   | _::_::_::_,_=>exact Jg
  | Tuple es j p =>
   show PEi ce X _ (if es.all Jp then eTup (aAll (es.map (ev P n S))) else stE)
   split
   ·rename_i hs
    exact Jyf (Qw hs ihe)
   ·exact Jg
  | List es p =>
   show PEi ce X _ (if es.all Jp then J7 (aAll (es.map (ev P n S))) else stE)
   split
   ·rename_i hs
    exact Jx7 (Qw hs ihe)
   ·exact Jg
  | Dict ks vs p =>
   match ks,vs with
   | [Za k],[v]=>exact Jg
   | [],[]=>exact Jx2
   | [],_::_=>exact Jg
   | [Zb],_=>exact Jg
   | [Za _],[]=>exact Jg
   | [Za _],_::_::_=>exact Jg
   | some _::_::_,_=>exact Jg
   | none::_::_,_=>exact Jg
  | Subscript a i p =>
   cases i with
   | Slice lo hi st q =>
    cases st with
    | none=>exact Jvk x_sl (ihe a) (ih.o S X lo G) (ih.o S X hi G)
    | some st =>
     cases lo with
     | some _=>exact Jg
     | none =>
      cases hi with
      | some _=>exact Jg
      | none =>
       show PEi ce X _ (if isP2 st then eUn evnI (ev P n S a) else stE)
       split
       ·rename_i hm
        obtain⟨j,p1,rfl⟩:=Jr1 hm
        exact J0x (ihe a) Jvf λ _ _=>rfl
       ·exact Jg
   | _=>exact i_ix (J1z a) (ihe a) (ihe _) (Jlg rfl)
  | Attribute o f p =>
   show PEi ce X _ (if Qx o&&P.fld f then eFld f (ev P n S o) else stE)
   split
   ·rename_i hs
    simp only[Zl] at hs
    exact J0y (ihe o) (G.pg.fld f hs.2) (VV hs.1)
   ·exact Jg
  | Call f args kws p =>
   cases kws with
   | cons kw kws =>
    cases f with
    | Name x q=>exact Jzs G λ S X e G=>ih.e S X e G
    | _=>exact Jg
   | nil =>
    cases f with
    | Name x q =>
     show PEi ce X _ (if S.gl x&&args.all Jp then Joa P n S x args else stE)
     split
     ·rename_i hs
      simp only[Zl] at hs
      exact ih.c S X x args q p G hs.1 hs.2
     ·exact Jg
    | Attribute o m ap =>
     show PEi ce X _ (if args.all Jp&&Qx o&&(ap.endLine==p.line)&&decide (args.length<30) then Jrf P S m args.length o (aAll (args.map (ev P n S))) (J1 P m args.length (ev P n S o) (aAll (args.map (ev P n S)))) else stE)
     split
     ·rename_i hs
      simp only[Zl,decide_eq_true_eq] at hs
      exact Jpt G (Jwl G (ihe o) ihe hs.1.1.1 hs.1.1.2 hs.1.2 hs.2) ihe hs.1.1.1 hs.1.1.2 hs.1.2 hs.2
     ·exact Jg
    | _=>exact Jg
  | ListComp elt gens sc p =>
   match gens with
   | [⟨tg,iter,ifs,as⟩] =>
    show PEi ce X _ (if as=0/\VC iter=Ze/\JY S.N (Qh sc) (JV sc) (jsOf S sc) S.fake sc=Ze then
     Jn3 ifs (evT P n (S.comp sc)) (λ mt=>Js (evI P n S tg iter) (Qh sc).length (jsOf S sc) (tgt P n (S.comp sc) tg) mt (ev P n (S.comp sc) elt)) else stE)
    split
    ·rename_i hs
     obtain⟨rfl,hi,ok⟩:=hs
     have Gc:=G.comp ok
     have ok':=ok
     rw[<- Jf4 G] at ok'
     match ifs with
     | []=>exact Jts G.calm (ih.i S X tg iter G) (λ C s H fp=>ih.g _ _ tg (Gc C s H fp)) (λ C s H fp=>Jua) (λ C s H fp=>ih.e _ _ elt (Gc C s H fp)) ok' G.n rfl (VY hi)
     | [c]=>exact Jts G.calm (ih.i S X tg iter G) (λ C s H fp=>ih.g _ _ tg (Gc C s H fp)) (λ C s H fp=>Jp6 (ih.t _ _ c (Gc C s H fp))) (λ C s H fp=>ih.e _ _ elt (Gc C s H fp)) ok' G.n rfl (VY hi)
     | _::_::_=>exact Jg
    ·exact Jg
   | []=>exact Jg
   | ⟨_,_,_,_⟩::_::_=>exact Jg
  | _=>exact Jg
 ·have ihe:=λ e=>ih.e S X e G
  have hu:=G.room.units
  cases e with
  | UnaryOp op a p =>
   cases op with
   | Not=>exact Jzu (ih.t S X a G)
   | _=>exact Js5 VI (ihe _)
  | BoolOp op vs p =>
   cases op with
   | And=>exact(Jp2 (λ e=>ih.t S X e G) vs).t
   | Or=>exact(Jwp (λ e=>ih.t S X e G) vs).t
  | IfExp t a b p=>exact Jg
  | Compare a ops cs p =>
   match ops,cs with
   | [o],[b] =>
    show PTi ce X _ (if Zbf o b then stT else Jh asB (Jc (cmpD P.ne o b) (ev P n S a) (ev P n S b)))
    split
    ·exact Jg
    ·rename_i hb
     exact Jzt (Jt0 hu (λ c z=>let ⟨C,p,q,_⟩:=G.pg.ne c z;⟨C,p,q⟩) o b) (ihe a) (ihe b) (ZaX.mpr hb)
   | [o,o'],[b,c] =>
    show PTi ce X _ (if ZdL [o,o'] [b,c] then stT else Jh asB (QB (cmpI o) (cmpI o') (ev P n S a) (ev P n S b) (ev P n S c)))
    split
    ·exact Jg
    ·rename_i hb
     exact Jwo (VD hu o) (VD hu o') (ihe a) (ihe b) (ihe c) (ZaX.mpr hb)
   | [],_=>exact Jg
   | [_],[]=>exact Jg
   | [_],_::_::_=>exact Jg
   | [_,_],[]=>exact Jg
   | [_,_],[_]=>exact Jg
   | [_,_],_::_::_::_=>exact Jg
   | _::_::_::_,_=>exact Jg
  | _=>exact Js5 VI (ihe _)
 ·cases e with
  | none=>exact Jy9
  | some e=>exact Jza (ih.e S X e G)
 ·have ihe:=λ e=>ih.e S X e G
  show PEi ce X _ (match P.fn x with
  | some f=>Jk9 f args.length (aAll (args.map (ev P n S)))
  | none=>match P.cls x with
   | some f=>Jlb x f args.length (aAll (args.map (ev P n S)))
   | none=>if P.free x then Jhm P S x (ev P n S) args else stE)
  cases hx:P.fn x with
  | some f=>exact Jsy G hx hg ha ihe
  | none =>
   dsimp only
   cases hc:P.cls x with
   | some f=>exact Jsz G hc hg ha ihe
   | none =>
    dsimp only
    split
    ·rename_i hfr
     exact Jpu G ihe hg ha hfr
    ·exact Jg
 ·have ihe:=λ e=>ih.e S X e G
  cases e with
  | Call f args kws p =>
   cases kws with
   | cons _ _=>cases f<;>exact Jru (ihe _)
   | nil =>
    cases f with
    | Name x q =>
     show PIi ce X tg _ (if S.gl x&&P.free x&&args.all Jp&&(x=="range") then Jxy args.length (aAll (args.map (ev P n S)))
      else if S.gl x&&P.free x&&args.all Jp&&(x=="enumerate") then(match tg,args with
       | .Tuple ..,[a]=>iRg QN (Jb (ev P n S a) Jd)
       | _,_=>stI)
      else if S.gl x&&P.free x&&args.all Jp&&(x=="reversed") then(match args with
       | [a]=>iRg Vg (Jb (ev P n S a) Jd)
       | _=>stI)
      else J0 (ev P n S (.Call (.Name x q) args [] p)))
     split
     ·rename_i hs
      simp only[Zl,beq_iff_eq] at hs
      obtain⟨⟨⟨hg,hf⟩,ha⟩,rfl⟩:=hs
      obtain⟨gx,_,_⟩:=G.gl hg
      have hm:=G.pg.free _ hf
      have pa:=Qw ha ihe
      match args,ha,pa with
      | [],_,_=>exact XR
      | [a],ha,pa =>
       simp only[ZY,Zl] at ha
       exact Jrw gx hm pa (Ju ha.1)
      | [a,b],ha,pa =>
       simp only[ZY,Zl] at ha
       exact Jrx gx hm pa (by rw[Ju ha.1,Ju ha.2.1];rfl) (Ju ha.2.1)
      | _::_::_::_,_,_=>exact XR
     ·split
      ·rename_i hs
       simp only[Zl,beq_iff_eq] at hs
       obtain⟨⟨⟨hg,hf⟩,ha⟩,rfl⟩:=hs
       obtain⟨gx,_,_⟩:=G.gl hg
       have hm:=G.pg.free _ hf
       split
       ·simp only[ZY,Zl] at ha
        exact Jx3 gx hm (JX (ihe _) Qb (Ju ha.1)) (Ju ha.1)
       ·exact XR
      ·split
       ·rename_i hs
        simp only[Zl,beq_iff_eq] at hs
        obtain⟨⟨⟨hg,hf⟩,ha⟩,rfl⟩:=hs
        obtain⟨gx,_,_⟩:=G.gl hg
        have hm:=G.pg.free _ hf
        split
        ·simp only[ZY,Zl] at ha
         exact J0z gx hm (JX (ihe _) Qb (Ju ha.1)) (Ju ha.1)
        ·exact XR
       ·exact Jru (ihe _)
    | _=>exact Jru (ihe _)
  | _=>exact Jru (ihe _)
 ·cases e with
  | Name x p =>
   show PGi ce X _ (match S.sto x with|some i=>gNm i|none=>stG)
   cases hv:S.sto x with
   | none=>exact Jff
   | some i =>
    obtain⟨h1,h2,h3⟩:=G.sto hv
    exact g_nm G.nodup h1 h2 h3
  | Tuple es j p =>
   show PGi ce X _ (if es.all Jp then gTp es.length (gAll (es.map (tgt P n S))) else stG)
   split
   ·rename_i hs
    exact J0s G.calm (Jtr hs λ e=>ih.g S X e G) (Jti hs) (Jnp hs)
   ·exact Jff
  | _=>exact Jff
theorem Jic (ce:CeT)(k:Nat)(P:Pg):∀n,Snd ce k P n
 | 0=>Js2
 | n+1=>Js1 (Jic ce k P n)
end
section
variable {ce:CeT}{X:Cx}{pos:Pos}
theorem Jwh {c:Expr}{body:List Zbv}{mt:T1}{mb:S1}(hst:X.stack=X.env::X.outer)(hf:X.env.frame=Za X.env.locals)(hc:PTi ce X c mt)(hb:PS2 ce X body mb):PS1 ce X (.While c body [] pos) (VG mt mb):=by
 intro pj s σ H ι σi h Q E N K
 rw[Jgj] at K
 generalize VL=m0 at K
 refine wpAny_While (codeAny_whileLoop (λ n s'=>∃ιk σk hk σ' H',Now ce X pj ιk σk hk σ' H' s'/\Nxt ι H ιk H'/\JA ce X pj ιk H' (Q5 mt mb n σk hk) Q E) ?_ m0 ⟨ι,σi,h,σ,H,N,.refl,K⟩)
 rintro n s1 ⟨ι1,σ1i,h1,σ1,H1,N1,n1,K1⟩
 cases n with
 | zero=>exact Zf K1
 | succ n =>
  unfold Q5 at K1
  refine nof (hc pj s1 σ1 H1 ι1 σ1i h1 _ (λ _ _=>False) N1 ?_)
  cases et:mt σ1i h1 with
  | exc m h2=>rw[et] at K1;exact Zf K1
  | stuck=>rw[et] at K1;exact Zf K1
  | ok b h2 =>
   rw[et] at K1
   intro b' s2 H2 ι2 N2 n2 r2
   have r':b'=b:=r2
   subst r'
   dsimp only at K1
   cases b' with
   | false=>exact ZbQ (K1 s2 σ1 H2 ι2 N2 n2)
   | true =>
    rw[if_pos rfl]
    rw[if_pos rfl] at K1
    refine hb pj s2 σ1 H2 ι2 σ1i h2 _ _ N2 ?_
    cases eb:mb σ1i h2 with
    | next σ3 h3 =>
     rw[eb] at K1
     exact λ s3 σ3' H3 ι3 N3 n3=>⟨n,ZaR n,ι3,σ3,h3,σ3',H3,N3,(n1.trans n2).trans n3,JA.mono (r:=Q5 mt mb n σ3 h3) K1 (n2.trans n3)⟩
    | cont σ3 h3 =>
     rw[eb] at K1
     exact λ s3 σ3' H3 ι3 N3 n3=>⟨n,ZaR n,ι3,σ3,h3,σ3',H3,N3,(n1.trans n2).trans n3,JA.mono (r:=Q5 mt mb n σ3 h3) K1 (n2.trans n3)⟩
    | brk σ3 h3 =>
     rw[eb] at K1
     exact λ s3 σ3' H3 ι3 N3 n3=>K1 s3 σ3' H3 ι3 N3 (n2.trans n3)
    | ret v h3 =>
     rw[eb] at K1
     exact λ u s3 σ3i σ3' H3 ι3 N3 n3 r=>K1 u s3 σ3i σ3' H3 ι3 N3 (n2.trans n3) r
    | exc m σ3 h3 =>
     rw[eb] at K1
     dsimp only at K1
     cases hj:h3[m]? with
     | none=>rw[hj] at K1;exact Zf K1
     | some ob =>
      cases ob with
      | exc c fs =>
       rw[hj] at K1
       intro pl a s7 σ7 H7 ι7 N7 n7 q s8 fl
       obtain⟨C,tv,d,fe,hC,ha,ht⟩:=N7.rel.get hj q
       have back:∀h8,Noted X.env.locals (frs X.stack) a s7.heap h8->Ze0 (Z1 X.prog X.w) X.A X.env E (.ref a) { s7 with heap:=h8 }:=λ h8 n8 =>
        Jhd hf n8 λ h9 n9=>K1 pl a s7 σ7 H7 ι7 N7 (n2.trans n7) q _ (.inr ⟨h9,rfl,n9⟩)
       rcases fl with rfl|⟨h8,rfl,n8⟩
       ·exact Jh1 N7.inv hst hf ha ht back
       ·exact Jdg hf n8 (back h8 n8)
      | _=>rw[hj] at K1;exact Zf K1
    | stuck=>rw[eb] at K1;exact Zf K1
end
section
variable {ce:CeT}{k:Nat}{P:Pg}{n:Nat}{S:Sc}{X:Cx}
theorem QG {f:Zbv->S1}(hf:∀s,PS1 ce X s (f s)):∀(l:List Zbv),PS2 ce X l (sAll (l.map f))
 | []=>Jzi
 | [a]=>Jzj (hf a)
 | a::b::r=>Jwb (hf a) (QG hf (b::r))
end
section
variable {ce:CeT}{k:Nat}{P:Pg}{S:Sc}{X:Cx}{xi:Xi}{xf:Str->Str->Bool}{fr:Str->Bool}
theorem Jrq (G:Good ce k P S X)(O:XiOk X.K X.mg xi xf)(hi:∀x,fr x=Ze->X.mg x=Zb)(a:Zi){f:Expr}{as:List Expr}{ks:List Zdj}{p:Pos}{m:Expr->E1}(hm:∀e,PEi ce (Jj X a) e (m e)):PEi ce (Jj X a) (.Call f as ks p) (Ju5 S xi fr f as ks p m):=by
 unfold Ju5
 split
 ·rename_i x q b D q2
  split
  ·rename_i h
   simp only[Zl,beq_iff_eq] at h
   obtain⟨⟨⟨⟨rfl,h0⟩,h1⟩,h2⟩,h3⟩:=h
   cases hx:xi D with
   | none=>exact Jg
   | some g =>
    obtain⟨v,hv,hg⟩:=O.1 D g hx
    obtain⟨gD,db,nn⟩:=G.gl h2
    have hc:ClsE (Jj X a) (.Name D q2) v:=by
     rcases hv with z|⟨z,w⟩
     ·exact Jj5 (X:=Jj X a) gD z db
     ·exact V9 (X:=Jj X a) gD z w nn db
    refine Jx6 (X:=Jj X a) (c:=v) hc ⟨nofun,nofun,nofun,nofun,nofun,nofun,nofun,nofun,λ c C b e hC=>?_⟩ (hm b) (G.gl h1).1 (hi _ h0) rfl (Ju h3) rfl rfl
    obtain⟨e1,e2,_⟩:=hg c C b e hC
    exact⟨e1,e2⟩
  ·exact Jg
 ·rename_i x q b
  split
  ·rename_i h
   simp only[Zl,beq_iff_eq] at h
   obtain⟨⟨⟨rfl,h0⟩,h1⟩,h3⟩:=h
   obtain⟨gx,xdb,xn⟩:=G.gl h1
   exact Vt (X:=Jj X a) Jxl gx (hi _ h0) rfl (JX (hm b) Qb (Ju h3)) xn xdb (Ju h3) rfl
  ·exact Jg
 ·rename_i o y ap b
  split
  ·rename_i h
   simp only[Zl,beq_iff_eq] at h
   obtain⟨⟨⟨rfl,h1⟩,h2⟩,h3⟩:=h
   exact i_bm (X:=Jj X a) Zbm PySem.F.slot_list_index PySem.F.type_list_index (Jsb (X:=Jj X a) G.room.units) (hm o) (JX (hm b) Qb (Ju h1)) (VV h2) (Joq (es:=[b]) (by simp[h1]) (by simp)) (by simpa using h3) (Ju h1) rfl
  ·exact Jg
 ·exact Jg
theorem Jrr (G:Good ce k P S X)(a:Zi){w:Bool}(hw:w=Ze->Warm (Jj X a).A X.H₀){sc:Zba}{elt:Expr}{gens:List Comprehension}{p:Pos}{m:Bool->Sc->Expr->E1}(hm:∀e,PEi ce (Jj X a) e (m w S e))
  (hc:JY S.N (Qh sc) (JV sc) (jsOf S sc) S.fake sc=Ze->∀C s H fp e,PEi ce (Jj (cxC X (Qh sc++JV sc) sc C s H fp) a) e (m Zj (S.comp sc) e)):PEi ce (Jj X a) (.ListComp elt gens sc p) (Ju6 w S sc elt gens m):=by
 unfold Ju6
 split
 ·rename_i y yp iter c cp as
  split
  ·rename_i hs
   obtain⟨rfl,rfl,hi,ok⟩:=hs
   have Gc:=G.comp ok
   have ok':=ok
   rw[<- Jf4 G] at ok'
   cases hv:(S.comp sc).sto y with
   | none=>exact Jg
   | some i =>
    refine Jvd (X:=Jj X a) (hw rfl) (Jvg (hm iter)) (λ C s H fp=>?_) (λ C s H fp=>Jp6 (Js5 VI (hc ok C s H fp _))) (λ C s H fp=>hc ok C s H fp elt) ok' G.n rfl (VY hi)
    obtain⟨h1,h2,h3⟩:=(Gc C s H fp).sto hv
    exact g_nm (X:=Jj (cxC X (Qh sc++JV sc) sc C s H fp) a) (Gc C s H fp).nodup h1 h2 h3
  ·exact Jg
 ·exact Jg
theorem Jrt (a:Zi):∀(n:Nat)(w:Bool)(S:Sc)(X:Cx),Good ce k P S X->XiOk X.K X.mg xi xf->(∀x,fr x=Ze->X.mg x=Zb)->(w=Ze->Warm (Jj X a).A X.H₀)->∀e,PEi ce (Jj X a) e (hv xi xf fr n w S e)
 | 0,_,_,_,_,_,_,_,_=>Jg
 | n+1,w,S,X,G,O,hi,hw,e=>by
  have ihe:=Jrt a n w S X G O hi hw
  have hu:(Jj X a).A.units+64<Zet:=G.room.units
  cases e with
  | Constant c j p =>
   cases c with
   | int i=>exact Jvf
   | bool b=>exact i_bl
   | none=>exact Jyc
   | str x=>exact Jye
   | _=>exact Jg
  | Name x p =>
   show PEi ce (Jj X a) (.Name x p) (match S.vis x with|some i=>Ja i|none=>stE)
   cases hv:S.vis x with
   | some i =>
    obtain⟨h1,h2,h3,h4⟩:=G.vis hv
    exact Jvl (X:=Jj X a) i h1 h2 h3 h4
   | none=>exact Jg
  | BinOp b op c p=>exact Jxz (Jyz op) (ihe b) (ihe c)
  | Compare b ops cs p =>
   match ops,cs with
   | [o],[c] =>
    show PEi ce (Jj X a) _ (if Zbf o c then stE else Jc (cmpI o) (hv xi xf fr n w S b) (hv xi xf fr n w S c))
    split
    ·exact Jg
    ·rename_i hb
     exact Jx1 (VD hu o) (ihe b) (ihe c) (ZaX.mpr hb)
   | [],_=>exact Jg
   | [_],[]=>exact Jg
   | [_],_::_::_=>exact Jg
   | _::_::_,_=>exact Jg
  | Subscript b i p =>
   show PEi ce (Jj X a) _ (if Jhz i then Jc Jk (hv xi xf fr n w S b) (hv xi xf fr n w S i) else stE)
   split
   ·rename_i h
    exact i_ix x_ix (ihe b) (ihe i) (Jlg h)
   ·exact Jg
  | UnaryOp op b p=>exact i_un (o_un op) (ihe b)
  | BoolOp op vs p =>
   cases op with
   | And=>exact Jn9 ihe vs
   | Or=>exact Juw ihe vs
  | Tuple es j p =>
   show PEi ce (Jj X a) _ (if es.all Jp then eTup (aAll (es.map (hv xi xf fr n w S))) else stE)
   split
   ·rename_i hs
    exact Jyf (Qw hs ihe)
   ·exact Jg
  | List es p =>
   show PEi ce (Jj X a) _ (if es.all Jp then J7 (aAll (es.map (hv xi xf fr n w S))) else stE)
   split
   ·rename_i hs
    exact Jx7 (Qw hs ihe)
   ·exact Jg
  | Call f as ks p =>
   exact Jrq G O hi a ihe
  | Attribute o f p =>
   show PEi ce (Jj X a) _ (if Qx o then VW (xf f) f (hv xi xf fr n w S o) else stE)
   split
   ·rename_i h
    exact Jx4 (X:=Jj X a) (ihe o) (λ c C hc hC=>(O.2 f c C hc hC).2) (VV h)
   ·exact Jg
  | ListComp elt gens sc p =>
   exact Jrr G a hw ihe λ ok C s H fp e=>Jrt a n Zj _ _ (G.comp ok C s H fp) O hi (λ z=>by cases z) e
  | _=>exact Jg
theorem Jxx (G:Good ce k P S X)(O:XiOk X.K X.mg xi xf)(hi:∀x,fr x=Ze->X.mg x=Zb)(a:Zi){w:Bool}(hw:w=Ze->Warm (Jj X a).A X.H₀):∀n e,PTi ce (Jj X a) e (hT xi xf fr w S n e)
 | 0,_=>Jg
 | n+1,e=>by
  have ih:=Jxx G O hi a hw n
  have ihe:=Jrt a n w S X G O hi hw
  have hu:(Jj X a).A.units+64<Zet:=G.room.units
  cases e with
  | UnaryOp op b p =>
   cases op with
   | Not=>exact Jzu (ih b)
   | _=>exact Jg
  | BoolOp op vs p =>
   cases op with
   | And=>exact(Jp2 ih vs).t
   | Or=>exact(Jwp ih vs).t
  | Compare b ops cs p =>
   match ops,cs with
   | [o],[c] =>
    show PTi ce (Jj X a) _ (if Zbf o c then stT else Jh asB (Jc (cmpI o) (hv xi xf fr n w S b) (hv xi xf fr n w S c)))
    split
    ·exact Jg
    ·rename_i hb
     exact Jzt (VD hu o) (ihe b) (ihe c) (ZaX.mpr hb)
   | [],_=>exact Jg
   | [_],[]=>exact Jg
   | [_],_::_::_=>exact Jg
   | _::_::_,_=>exact Jg
  | Call f as ks p=>exact Js5 VI (ihe _)
  | _=>exact Jg
theorem Ju8 (G:Good ce k P S X)(O:XiOk X.K X.mg xi xf)(hi:∀x,fr x=Ze->X.mg x=Zb)(a:Zi){w:Bool}(hw:w=Ze->Warm (Jj X a).A X.H₀):∀n st,PS1 ce (Jj X a) st (hx xi xf fr w S n st)
 | 0,_=>J9
 | n+1,st=>by
  have ih:=Ju8 G O hi a hw n
  have ihe:=Jrt a n w S X G O hi hw
  cases st with
  | Pass p=>exact Jt5
  | Return v p =>
   cases v with
   | none=>exact J9
   | some e=>exact Jzo (ihe e)
  | If c x y p=>exact s_if (Jxx G O hi a hw n c) (QG ih x) (QG ih y)
  | Assign tgs e p =>
   match tgs with
   | []=>exact J9
   | b::_::_=>cases b<;>exact J9
   | [tg] =>
    cases tg with
    | Name x q =>
     show PS1 ce (Jj X a) _ (if QE e then(match S.sto x with|some i=>Ji i (hv xi xf fr n w S e)|none=>stS) else stS)
     split
     ·rename_i h
      cases hv:S.sto x with
      | none=>exact J9
      | some i =>
       obtain⟨h1,h2,h3⟩:=G.sto hv
       exact Jwg (X:=Jj X a) G.nodup (ihe e) h1 h2 (Xn h) h3
     ·exact J9
    | _=>exact J9
  | _=>exact J9
theorem Jjl {a:Zi}{sl:Option Nat}{suite:List Zbv}:PSH ce X a sl suite stS:=λ _ _ _ _ _ _ _ _ _ _ _ _ _ _ _ _ _ K=>(show False from K).elim
theorem Jon (G:Good ce k P S X)(ho:S.own=Ze)(n:Nat)(a:Zi)(sl:Option Nat)(suite:List Zbv):PSH ce X a sl suite (Jom P S n sl suite):=by
 unfold Jom
 split
 ·rename_i x px f pf e pe pc pos
  split
  ·rename_i j i g e1 e3
   split
   ·rename_i h
    simp only[Zl,decide_eq_true_eq] at h
    obtain⟨h1,h2⟩:=h
    obtain⟨fa,fd,qual,st,dV,N',p1,m,c1,c2,F,Sc',B,rfl,hb⟩:=G.pg.wr _ _ e3
    obtain⟨s1,s2,s3⟩:=G.sto e1
    obtain⟨v1,v2,v3,v4⟩:=G.vis h2
    obtain⟨g1,g2,g3⟩:=G.gl h1
    exact Jsp F Sc' hb (G.room3 ho) G.nodup s1 s2 s3 (Xn rfl) v1 (Jvl (X:=Jj X a) i v1 v2 v3 v4) g1 c1 c2 B g2
   ·exact Jjl
  ·exact Jjl
 ·exact(QG (Ju8 G G.pg.xi G.pg.free a (λ z=>by cases z) n) _).h
theorem J0u (G:Good ce k P S X)(O:XiOk X.K X.mg xi xf){D:Str}{g:Str->Option Bool}{q:Pos}(hx:xi D=Za g)(h2:S.gl D=Ze)(a:Zi)(c:Str)(C:Zi)(b:Bool)(pj:PnT)(σ:L2.St)(H:Hp)(s:Zk)(Q:Bool->Zk->Prop)(E:QvT)(hb:g c=Za b)
  (hC:W.nsIn X.K Zm c=Za (Za (.ref C)))(I:Inv (Jj X a) pj σ H s)(ho:∃oe,s.heap.get? a=Za oe/\oe.cls=.ref C)(hq:Q b s):Zq (Z1 X.prog X.w) (Jj X a).A (ZaJ (.Name D q) X.env) (λ v s₁=>Zq (Z1 X.prog X.w) (Jj X a).A (excMatches (.ref a) v) Q E s₁) E s:=by
 obtain⟨v,hv,hg⟩:=O.1 D g hx
 obtain⟨gD,db,nn⟩:=G.gl h2
 have hc:ClsE (Jj X a) (.Name D q) v:=by
  rcases hv with z|⟨z,w⟩
  ·exact Jj5 (X:=Jj X a) gD z db
  ·exact V9 (X:=Jj X a) gD z w nn db
 refine hc pj σ H s _ E I ?_
 obtain⟨_,_,e3⟩:=hg c C b hb hC
 obtain⟨oe,h1,h2⟩:=ho
 obtain⟨hh,gg,d,tk,os⟩:=s
 have LT:W.Looks (Z1 X.prog X.w) hh (ZdT (.ref a)) (.ref C):=h2▸(W.Looks.ld h1).andThen .now
 exact(W.exm_one (I.kIn:X.K.In hh) LT e3).at hq
theorem Joj (G:Good ce k P S X)(ho:S.own=Ze){n:Nat}:∀{l:List Zbg}{ms:List HdI},hHds P S n l=Za ms->HdsOk ce X l ms
 | [],ms,e=>by cases e;exact .nil
 | h::r,ms,e=>by
  unfold hHds at e
  cases e1:hHd P S n h with
  | none=>rw[e1] at e;cases e
  | some q =>
   cases e2:hHds P S n r with
   | none=>rw[e1,e2] at e;cases e
   | some l =>
    rw[e1,e2] at e
    cases e
    unfold hHd at e1
    split at e1
    ·rename_i D q2 nm b suite pos
     split at e1
     ·rename_i hD
      cases e3:P.xi D with
      | none=>rw[e3] at e1;cases e1
      | some g =>
       cases e4:hSl S nm with
       | none=>rw[e3,e4] at e1;cases e1
       | some sl =>
        rw[e3,e4] at e1
        cases e1
        refine .cons ⟨λ a c C b pj σ H s Q E hb hC I ho hq=>J0u G G.pg.xi e3 hD a c C b pj σ H s Q E hb hC I ho hq,?_,λ a=>Jon G ho n a sl _⟩ (Joj G ho e2)
        unfold hSl at e4
        cases nm with
        | none=>cases e4;exact .inl ⟨rfl,rfl⟩
        | some x =>
         dsimp only at e4
         split at e4
         ·rename_i hl
          obtain⟨i,hi',rfl⟩:=Z5.mp e4
          refine .inr ⟨x,i,rfl,rfl,by rw[G.n];exact XI hi',?_⟩
          rw[G.kind]
          exact beq_iff_eq.mp hl
         ·cases e4
     ·cases e1
    ·cases e1
end
section
variable {ce:CeT}{k:Nat}{P:Pg}{n:Nat}{S:Sc}{X:Cx}
theorem Jmn (G:Good ce k P S X){m:Expr->E1}(hm:∀e,PEi ce X e (m e)){x:Str}{e:Expr}{q q2 p:Pos}:PS1 ce X (.Raise (Za (.Call (.Name x q) [e] [] q2)) Zb p) (Jkd P S m x e):=by
 unfold Jkd
 split
 ·rename_i f hf
  split
  ·rename_i h
   simp only[Zl,decide_eq_true_eq] at h
   obtain⟨⟨h1,h2⟩,h3⟩:=h
   split
   ·rename_i d hd
    obtain⟨C,fa,fd,ps,c1,c2,c3,c4,c5,D⟩:=G.pg.xo x f hf
    obtain⟨gx,db,_⟩:=G.gl h1
    obtain⟨ds,hb,hl,qd⟩:=Jhq D hd
    have hz:ps.length<=sizeLine:=by
     have:=D.len
     rw[Zd2]
     omega
    refine Jst G.calm (Jvi c3 c4 D.ok c2 G.room gx c1 hb qd (Qw (es:=[e]) (by simp[h2]) hm) (λ σ h xs h' z=>?_) hz db (Ju h2) rfl) λ c C' hc hC' h hK=>?_
    ·have:=Xz _ σ h xs h' z
     rw[Zo] at this
     simp at this
     omega
    ·have e1:c=x:=beq_iff_eq.mp hc
     subst e1
     rw[c2] at hC'
     cases hC'
     exact c5 h hK
   ·exact J9
  ·exact J9
 ·exact J9
theorem Jol (G:Good ce k P S X){m:Expr->E1}(hm:∀e,PEi ce X e (m e)){exc cause:Option Expr}{p:Pos}:PS1 ce X (.Raise exc cause p) (Jok P S m exc cause):=by
 unfold Jok
 split
 ·rename_i x q e q2
  split
  ·rename_i h
   simp only[Zl] at h
   obtain⟨⟨h1,h2⟩,h3⟩:=h
   obtain⟨C,c1,c2,c3⟩:=G.pg.rz x h2
   obtain⟨gx,db,_⟩:=G.gl h1
   exact Jwf G.calm gx c1 c2 c3 (JX (hm e) Qb (Ju h3)) db (Ju h3) rfl
  ·exact Jmn G hm
 ·exact J9
theorem Ju7 (G:Good ce k P S X){m:Zbv->S1}(hm:∀s,PS1 ce X s (m s)){body:List Zbv}{hs:List Zbg}{o f:List Zbv}{p:Pos}:PS1 ce X (.Try body hs o f p) (hTry P S n m body hs o f):=by
 unfold hTry
 split
 ·split
  ·rename_i h
   obtain⟨hk,hf⟩:=G.top h
   split
   ·rename_i ms e
    exact J1o G.nodup hk hf (QG hm body) (Joj G h e)
   ·exact J9
  ·exact J9
 ·exact J9
theorem Juj {tg:Expr}{env:Env}(h:Jp tg=Ze):(ZaF [tg] env).map (·.2)=[Zel tg env]:=by
 cases tg<;>first|rfl|cases h
theorem Js0 (G:Good ce k P S X)(i:Nat){e:Expr}{x:Str}{p q:Pos}(h:isLC e=Ze)(h1:X.N[i]?=Za x)(h2:L2.Loc X.env.scope x)(h3:X.fn x=Ze∨X.env.scope.names.lookup x=Za .local) :
  PS1 ce X (.Assign [.Name x q] e p) (Ji i (ev P n S e)):=by
 cases e with
 | ListComp elt gens sc cp =>
  cases hb:(X.env.blockKind==.function&&X.env.kindOf x==Za .local&&q.line==cp.line&&!(sc.names.any λ (n,k)=>n==x&&(k==.local||k==.cell))) with
  | false =>
   refine Jwg G.nodup ((Jic ce k P n).e S X _ G) h1 h2 ?_ h3
   show(pure (X.env.blockKind==.function&&X.env.kindOf x==Za .local&&q.line==cp.line&&!(sc.names.any λ (n,k)=>n==x&&(k==.local||k==.cell))):Sem Bool)=pure Zj
   rw[hb]
  | true =>
   have hsw:Zc4 (.ListComp elt gens sc cp) (Za (.Name x q)) p.line X.env=pure Ze:=by
    show(pure (X.env.blockKind==.function&&X.env.kindOf x==Za .local&&q.line==cp.line&&!(sc.names.any λ (n,k)=>n==x&&(k==.local||k==.cell))):Sem Bool)=pure Ze
    rw[hb]
   have dead:∀m:E1,(∀σ h,m σ h=.stuck)->PS1 ce X (.Assign [.Name x q] (.ListComp elt gens sc cp) p) (Ji i m):=λ m hm=>by
    intro pj s σ H ι σi h Q E N K
    unfold Ji at K
    rw[hm] at K
    exact Zf K
   cases n with
   | zero=>exact dead _ λ _ _=>rfl
   | succ n =>
    have ih:=Jic ce k P n
    match gens,hsw with
    | [⟨tg,iter,ifs,as⟩],hsw =>
     show PS1 ce X _ (Ji i (if as=0/\VC iter=Ze/\JY S.N (Qh sc) (JV sc) (jsOf S sc) S.fake sc=Ze then
      Jn3 ifs (evT P n (S.comp sc)) (λ mt=>Js (evI P n S tg iter) (Qh sc).length (jsOf S sc) (tgt P n (S.comp sc) tg) mt (ev P n (S.comp sc) elt)) else stE))
     split
     ·rename_i hs
      obtain⟨rfl,hi,ok⟩:=hs
      have Gc:=G.comp ok
      have ok':=ok
      rw[<- Jf4 G] at ok'
      match ifs,hsw with
      | [],hsw=>exact Jt4 G.calm (ih.i S X tg iter G) (λ C s H fp=>ih.g _ _ tg (Gc C s H fp)) (λ C s H fp=>Jua) (λ C s H fp=>ih.e _ _ elt (Gc C s H fp)) ok' G.n rfl (VY hi) G.nodup h1 h2 h3 hsw
      | [c],hsw=>exact Jt4 G.calm (ih.i S X tg iter G) (λ C s H fp=>ih.g _ _ tg (Gc C s H fp)) (λ C s H fp=>Jp6 (ih.t _ _ c (Gc C s H fp))) (λ C s H fp=>ih.e _ _ elt (Gc C s H fp)) ok' G.n rfl (VY hi) G.nodup h1 h2 h3 hsw
      | _::_::_,_=>exact dead _ λ _ _=>rfl
     ·exact dead _ λ _ _=>rfl
    | [],_=>exact dead _ λ _ _=>rfl
    | ⟨_,_,_,_⟩::_::_,_=>exact dead _ λ _ _=>rfl
 | _=>cases h
theorem Jlp (ce:CeT)(k:Nat)(P:Pg):∀(n:Nat)(S:Sc)(X:Cx)(st:Zbv),Good ce k P S X->PS1 ce X st (ex P n S st)
 | 0,_,_,_,_=>J9
 | n+1,S,X,st,G=>by
  have ih:=λ st=>Jlp ce k P n S X st G
  have E:=Jic ce k P n
  have ihe:=λ e=>E.e S X e G
  cases st with
  | Pass p=>exact Jt5
  | Break p=>exact Jwe
  | Continue p=>exact Jzl
  | Expr e p =>
   show PS1 ce X _ (if QE e then JT (ev P n S e) else stS)
   split
   ·rename_i h
    exact Jzm (ihe e) (Xn h)
   ·exact J9
  | Return v p =>
   cases v with
   | none=>exact Jzp
   | some e=>exact Jzo (ihe e)
  | If c a b p=>exact s_if (E.t S X c G) (QG ih a) (QG ih b)
  | Raise exc cause p=>exact Jol G ihe
  | Try body hs o f p=>exact Ju7 G ih
  | While c a o p =>
   cases o with
   | nil =>
    show PS1 ce X _ (Jkh S.own (evT P n S c) (sAll (a.map (ex P n S))))
    cases h:S.own with
    | true =>
     obtain⟨hk,hf⟩:=G.top h
     exact Jwh hk hf (E.t S X c G) (QG ih a)
    | false=>exact J9
   | cons _ _=>exact J9
  | For tg it a o p =>
   cases o with
   | nil =>
    show PS1 ce X _ (if VC it&&S.own then sFor (evI P n S tg it) (tgt P n S tg) (sAll (a.map (ex P n S))) else stS)
    split
    ·rename_i h
     rw[Zl] at h
     obtain⟨hk,hf⟩:=G.top h.2
     exact J1n G.calm hk hf (E.i S X tg it G) (E.g S X tg G) (QG ih a) (VY h.1)
    ·exact J9
   | cons _ _=>exact J9
  | Assign tgs e p =>
   match tgs with
   | []=>exact J9
   | a::_::_=>cases a<;>exact J9
   | [tg] =>
    have gen:PS1 ce X (.Assign [tg] e p) (if QE e&&((Jr3 tg&&Jvy e)||Jr2 tg) then sAsg (ev P n S e) (tgt P n S tg) else stS):=by
     split
     ·rename_i h
      simp only[Zl,Zaq] at h
      have hst:Jp tg=Ze:=by
       rcases h.2 with q|q
       ·cases tg<;>first|rfl|(simp[Jr3] at q)
       ·cases tg<;>first|rfl|(simp[Jr2] at q)
      refine J1l (ihe e) (E.g S X tg G) (Xn h.1) ?_ (Juj hst)
      rcases h.2 with q|q
      ·cases tg with
       | Tuple es j pp =>
        have q2:=q.2
        cases e<;>first|rfl|(simp[Jvy] at q2)
       | _=>simp[Jr3] at q
      ·cases tg with
       | Subscript=>cases e<;>rfl
       | _=>simp[Jr2] at q
     ·exact J9
    cases tg with
    | Name x q =>
     show PS1 ce X _ (if QE e||isLC e then(match S.sto x with|some i=>Ji i (ev P n S e)|none=>stS) else stS)
     split
     ·rename_i h
      cases hv:S.sto x with
      | none=>exact J9
      | some i =>
       obtain⟨h1,h2,h3⟩:=G.sto hv
       rcases Zaq _ _▸h with h|h
       ·exact Jwg G.nodup (ihe e) h1 h2 (Xn h) h3
       ·exact Js0 G i h h1 h2 h3
     ·exact J9
    | Attribute o f q =>
     show PS1 ce X _ (if QE e||isLC e then Jwc P f (ev P n S o) (ev P n S e) else stS)
     split
     ·rename_i h
      have hw:Zc4 e (Za (.Attribute o f q)) p.line X.env=pure Zj:=by
       rcases Zaq _ _▸h with h|h
       ·exact Xn h
       ·cases e<;>first|rfl|cases h
      unfold Jwc
      split
      ·rename_i hf
       exact J1m (ihe o) (ihe e) (G.pg.fld f hf) hw
      ·exact Jzn (ihe o) (ihe e) (λ c C hc hC=>(G.pg.xi.2 f c C hc hC).1) hw
     ·exact J9
    | _=>exact gen
  | _=>exact J9
end
structure D4 where
 st:Zbv
 qual:Str
 ps:List Str
 N:List Str
 dvs:List IV
def D4.sc (d:D4):Sc:=⟨d.N,(Jx d.st).names,Ze,d.qual⟩
structure Tab where
 fns:List (Str×D4)
 clss:List (Str×D4)
 meths:List (Str×List (Str×D4))
 cons:List (Str×IV)
 isas:List (Str×List Str)
 flds:List Str
 frees:List Str
 tabs:List Str:=[]
 razs:List Str:=[]
 xis:List (Str×List (Str×Bool)):=[]
 bass:List Str:=[]
 wrs:List (Str×D4):=[]
 nes:List Str:=[]
 xms:List (Str×D4):=[]
 xfs:List (Str×List Str):=[]
 xbs:List Str:=[]
def memS (x:Str):List Str->Bool
 | []=>Zj
 | y::r=>y==x||memS x r
def JH {α:Type}(x:Str):List (Str×α)->Option α
 | []=>Zb
 | (y,a)::r=>if y==x then Za a else JH x r
def xfOf (T:Tab)(f c:Str):Bool:=match JH f T.xfs with|some l=>memS c l|none=>Zj
def runW (T:Tab)(d:D4):List IV->IH->Res IV:=fnI d.N.length (sAll ((JG d.st).map (hx (λ D=>(JH D T.xis).map λ l c=>JH c l) (xfOf T) (λ x=>memS x T.frees) Ze { d.sc with own:=Zj } 40)))
def mkPg (T:Tab)(r:D4->List IV->IH->Res IV):Pg where
 fn:=λ x=>(JH x T.fns).map λ d=>⟨d.ps.length,d.dvs,r d⟩
 cls:=λ x=>(JH x T.clss).map λ d=>⟨d.ps.length,d.dvs,r d⟩
 meth:=λ c m=>((JH c T.meths).bind (JH m)).map λ d=>⟨d.ps.length,d.dvs,r d⟩
 con:=λ x=>JH x T.cons
 isa:=λ x=>(JH x T.isas).map λ l c=>memS c l
 fld:=λ x=>memS x T.flds
 free:=λ x=>memS x T.frees
 tabs:=λ q=>ixOf q T.tabs
 rz:=λ x=>memS x T.razs
 xi:=λ D=>(JH D T.xis).map λ l c=>JH c l
 bas:=λ x=>memS x T.bass
 wr:=λ x=>(JH x T.wrs).map (runW T)
 ne:=λ x=>memS x T.nes
 xo:=λ x=>(JH x T.xms).map λ d=>⟨d.ps.length,d.dvs,r d⟩
 xf:=xfOf T
 xb:=λ x=>memS x T.xbs
def run (T:Tab):Nat->D4->List IV->IH->Res IV
 | 0,_=>λ _ _=>.stuck
 | k+1,d=>fnI d.N.length (sAll ((JG d.st).map (ex (mkPg T (run T k)) 40 d.sc)))
theorem JS {α:Type}{x:Str}{a:α}:∀{l:List (Str×α)},JH x l=Za a->(x,a)∈l
 | [],h=>by cases h
 | (y,b)::r,h=>by
  unfold JH at h
  split at h
  ·rename_i e
   cases h
   rw[beq_iff_eq.mp e]
   exact Zv
  ·exact Zt _ (JS h)
theorem Vj {x:Str}:∀{l:List Str},memS x l=Ze->x∈l
 | [],h=>by cases h
 | y::r,h=>by
  unfold memS at h
  rcases Zaq _ _▸h with e|e
  ·rw[beq_iff_eq.mp e]
   exact Zv
  ·exact Zt _ (Vj e)
structure DefOk (K:W.Frag)(x:Str)(d:D4)(fa:Zi)(fd:Zam):Prop where
 fun_:∃dV,FunD K x d.qual d.st fa fd dV
 sc:FnScope d.N d.ps (Jx d.st)
 dv:∀j,j<=d.dvs.length->∃ds,JL K fd d.ps ds/\ds.length=d.dvs.length-j/\∃vs,Vals vs ds/\∀ι H,RVs K ι H (d.dvs.drop j) vs
structure TabOk (ce:CeT)(T:Tab)(K:W.Frag)(mg:Str->Option Zd):Prop where
 fn:∀x d,(x,d)∈T.fns->∃fa fd,mg x=Za (.ref fa)/\DefOk K x d fa fd
 cls:∀x d,(x,d)∈T.clss->∃C fa fd,mg x=Za (.ref C)/\ce x=Za C/\Mk K C fa/\DefOk K "__init__" d fa fd
 meth:∀c l m d,(c,l)∈T.meths->(m,d)∈l->∃C fa fd,ce c=Za C/\Cls K C/\Meth K C m fa/\DefOk K m d fa fd
 con:∀x v,(x,v)∈T.cons->∃u y,mg x=Za u/\RelV y u/\∀ι H,RV K ι H v y
 isa:∀D l,(D,l)∈T.isas->∃c,mg D=Za c/\IsOk ce K c λ t=>match t with|.ins c=>Za (memS c l)|.exc _=>Zb|_=>Za Zj
 fld:∀f,f∈T.flds->Jq1 ce K f
 free:∀x,x∈T.frees->mg x=Zb
 rz:∀x,x∈T.razs->∃C,mg x=Za (.ref C)/\W.nsIn K Zm x=Za (Za (.ref C))/\XCls K C
 xi:∀D l,(D,l)∈T.xis->∃v,(mg D=Za v∨(mg D=Zb/\Zbp D=Za v))/\∀c b,(c,b)∈l->∃C,W.nsIn K Zm c=Za (Za (.ref C))/\ExI K C/\W.kitOne K (.ref C) v=Za b/\W.exmOne K (.ref C) v=Za b
 bas:∀x,x∈T.bass->∃C,mg x=Za (.ref C)/\BasK K C
 wr:∀x d,(x,d)∈T.wrs->∃fa fd p,mg x=Za (.ref fa)/\DefOk K x d fa fd/\d.ps=[p]/\d.dvs=[]
 ne:∀c,c∈T.nes->∃C,ce c=Za C/\neIn K C=Ze/\ClsI K C/\W.kitOne K (.ref C) (.type "list")=Za Zj
 xo:∀x d,(x,d)∈T.xms->∃C fa fd,mg x=Za (.ref C)/\W.nsIn K Zm x=Za (Za (.ref C))/\JQ K C fa=Ze/\W.keepIn K (.ref C)=Ze/\(∀h:ZT,K.In h->ExC h C)/\DefOk K "__init__" d fa fd
 xf:∀f l c,(f,l)∈T.xfs->c∈l->∃C,W.nsIn K Zm c=Za (Za (.ref C))/\StoX K C f/\ExI K C/\W.findIn K (.ref C) f=Za Zb
 xb:∀x,x∈T.xbs->∃C,mg x=Za (.ref C)/\BasX K C
section
variable {ce:CeT}{T:Tab}{prog:ZA}{w:ZM}{K:W.Frag}{mg:Str->Option Zd}{base:ZT}
theorem Jme {k:Nat}{fa:Zi}{fd:Zam}{ps:List Str}:FnOk prog w K mg base (CXI prog w) k fa fd ps (spI ce K ps λ _ _=>.stuck) :=
 ⟨λ _ _ _ _ h=>h.1,λ _ _ _ _ _ _ _ _ _ _ _ _ _ h=>by obtain⟨_,_,_,_,_,_,z⟩:=h;exact z.elim⟩
def P0:Pg:=⟨λ _=>Zb,λ _=>Zb,λ _ _=>Zb,λ _=>Zb,λ _=>Zb,λ _=>Zj,λ _=>Zj,λ _=>Zb,λ _=>Zj,λ _=>Zj,λ _=>Zb,λ _=>Zb,λ _=>Zj,λ _=>Zb,λ _ _=>Zj,λ _=>Zj⟩
theorem pg0 {k:Nat}:PgOk ce k P0 prog w K mg base:=⟨nofun,nofun,nofun,nofun,nofun,nofun,nofun,nofun,nofun,⟨nofun,nofun⟩,nofun,nofun,nofun,nofun,nofun⟩
theorem J0c (O:TabOk ce T K mg):XiOk K mg (λ D=>(JH D T.xis).map λ l c=>JH c l) (xfOf T):=by
 refine⟨λ D g h=>?_,λ f c C h hC=>?_⟩
 rotate_left
 ·have h':(match JH f T.xfs with|some l=>memS c l|none=>Zj)=Ze:=h
  cases hl:JH f T.xfs with
  | none=>rw[hl] at h';cases h'
  | some l =>
   rw[hl] at h'
   obtain⟨C',q,r⟩:=O.xf f l c (JS hl) (Vj h')
   rw[hC] at q
   cases q
   exact r
 obtain⟨l,hl,rfl⟩:=Z5.mp h
 obtain⟨v,hv,hc⟩:=O.xi D l (JS hl)
 refine⟨v,hv,λ c C b e hC=>?_⟩
 obtain⟨C',h1,h2⟩:=hc c b (JS e)
 rw[hC] at h1
 cases h1
 exact h2
theorem J1u (O:TabOk ce T K mg){k:Nat}{x:Str}{r:List IV->IH->Res IV}(h:(JH x T.wrs).map (runW T)=Za r):∃fa fd qual st dV N' p1 m,mg x=Za (.ref fa)/\W.keepIn K (.ref fa)=Ze/\FunD K x qual st fa fd dV/\FnScope N' [p1] (Jx st)/\JL K fd [p1] []/\r=fnI N'.length m /\
  ∀(cdv:Zd)(A:ZG)(outer:List Env)(s:Zk)(H:Hp)(E:XK)(a:Zi),W.codeIn K cdv qual=Ze->Room (k+2) (A.deeper (ZcK qual (Jx st) s.heap.objs.size fa cdv))->Warm (A.mark (Za (.ref a))) H->PS2 ce (Jj (cxOf (CXI prog w) prog w K mg base N' qual (Jx st) fa cdv A outer s H E).nox a) (JG st) m:=by
 obtain⟨d,hd,rfl⟩:=Z5.mp h
 obtain⟨fa,fd,p,hm,ok,hp,hdv⟩:=O.wr x d (JS hd)
 obtain⟨dV,F⟩:=ok.fun_
 refine⟨fa,fd,d.qual,d.st,dV,d.N,p,_,hm,F.kp,F,hp▸ok.sc,?_,rfl,λ cdv A outer s H E a hcd hr hw=>?_⟩
 ·obtain⟨ds,b,l,_⟩:=ok.dv 0 (Zal _)
  rw[hdv] at l
  cases ZaG l
  rw[<- hp]
  exact b
 ·refine QG (Ju8 (k:=0) (P:=P0) ?_ (J0c O) (λ x h=>O.free x (Vj h)) a (λ _=>?_) 40) _
  ·exact⟨rfl,rfl,ok.sc.nd,ok.sc.kind,rfl,hr.mono (by omega),λ z=>absurd z Zp,pg0,λ z=>absurd z Zp,λ z=>absurd z Zp,λ z=>absurd z Zp⟩
  ·obtain⟨b,oe,u,vs,e1,e2,e3,e4⟩:=hw
   exact⟨b,oe,u,vs,e1,e2,e3,e4⟩
theorem J1h (O:TabOk ce T K mg)(B:T.tabs≠[]->Q7 mg base)(k:Nat)(hD:∀x d fa fd,DefOk K x d fa fd->FnD ce prog w K mg base (4*k) ⟨d.ps.length,d.dvs,run T k d⟩ fa fd d.ps):PgOk ce (4*k) (mkPg T (run T k)) prog w K mg base:=by
 refine⟨λ x f h=>?_,λ x f h=>?_,λ c m f h=>?_,λ x v h=>?_,λ D g h=>?_,λ f h=>?_,λ x h=>?_,λ q j h=>B λ e=>?_,λ x h=>O.rz x (Vj h),J0c O,λ x h=>O.bas x (Vj h),λ x r h=>J1u O h,λ c h=>O.ne c (Vj h),λ x f h=>?_,λ x h=>O.xb x (Vj h)⟩
 ·obtain⟨d,hd,rfl⟩:=Z5.mp h
  obtain⟨fa,fd,hm,ok⟩:=O.fn x d (JS hd)
  obtain⟨dV,F⟩:=ok.fun_
  exact⟨fa,fd,d.ps,hm,F.kp,hD x d fa fd ok⟩
 ·obtain⟨d,hd,rfl⟩:=Z5.mp h
  obtain⟨C,fa,fd,hm,hC,M,ok⟩:=O.cls x d (JS hd)
  exact⟨C,fa,fd,d.ps,hm,hC,M,hD _ d fa fd ok⟩
 ·obtain⟨d,hd,rfl⟩:=Z5.mp h
  obtain⟨l,hl,hd⟩:=ZdQ.mp hd
  obtain⟨C,fa,fd,hC,cl,me,ok⟩:=O.meth c l m d (JS hl) (JS hd)
  exact⟨C,fa,fd,d.ps,hC,cl,me,hD m d fa fd ok⟩
 ·exact O.con x v (JS h)
 ·obtain⟨l,hl,rfl⟩:=Z5.mp h
  exact O.isa D l (JS hl)
 ·exact O.fld f (Vj h)
 ·exact O.free x (Vj h)
 ·have h':ixOf q T.tabs=Za j:=h
  rw[e] at h'
  cases h'
 ·obtain⟨d,hd,rfl⟩:=Z5.mp h
  obtain⟨C,fa,fd,h1,h2,h3,h4,h5,ok⟩:=O.xo x d (JS hd)
  exact⟨C,fa,fd,d.ps,h1,h2,h3,h4,h5,hD _ d fa fd ok⟩
theorem Jto (O:TabOk ce T K mg)(B:T.tabs≠[]->Q7 mg base):∀k x d fa fd,DefOk K x d fa fd->FnD ce prog w K mg base (4*k) ⟨d.ps.length,d.dvs,run T k d⟩ fa fd d.ps
 | 0,x,d,fa,fd,ok=>⟨rfl,Jme,ok.dv⟩
 | k+1,x,d,fa,fd,ok=>by
  refine⟨rfl,?_,ok.dv⟩
  obtain⟨dV,F⟩:=ok.fun_
  show FnOk prog w K mg base (CXI prog w) (4*k+3+1) fa fd d.ps (spI ce K d.ps (run T (k+1) d))
  refine F.fn (m:=sAll ((JG d.st).map (ex (mkPg T (run T k)) 40 d.sc))) ok.sc λ cdv A outer s H E hcd hr=>?_
  refine QG (λ st=>Jlp ce (4*k) (mkPg T (run T k)) 40 d.sc _ st ?_) _
  exact⟨rfl,rfl,ok.sc.nd,ok.sc.kind,rfl,hr.mono (by omega),λ _ _=>rfl,J1h O B k (Jto O B k),λ _=>⟨hcd,rfl⟩,λ _=>hr,λ _=>⟨rfl,rfl⟩⟩
end
inductive All {α:Type}(p:α->Prop):List α->Prop
 | nil:All p []
 | cons {a:α}{l:List α}:p a->All p l->All p (a::l)
theorem All.mem {α:Type}{p:α->Prop}:∀{l:List α}{a:α},All p l->a∈l->p a
 | _,_,.nil,h=>by cases h
 | _,_,.cons h r,m=>by
  rcases ZB.mp m with rfl|m
  ·exact h
  ·exact r.mem m
def Jth (l:List Str):Ty->Option Bool:=λ t=>match t with|.ins c=>Za (memS c l)|.exc _=>Zb|_=>Za Zj
section
variable {T:Tab}{K:W.Frag}{mg:Str->Option Zd}
def ceOf (ces:List (Str×Zi)):CeT:=λ c=>JH c ces
def kits (K:W.Frag)(v:Zd)(l:List (Zi×Bool)):Bool:=l.all λ p=>W.kitOne K (.ref p.1) v==Za p.2&&W.exmOne K (.ref p.1) v==Za p.2
theorem J0b {v:Zd}:∀{cs:List (Str×Zi)}{bs:List Bool},All (λ p:Str×Zi=>W.nsIn K Zm p.1=Za (Za (.ref p.2))/\ExI K p.2) cs->cs.length=bs.length->kits K v ((cs.map (·.2)).zip bs)=Ze ->
  All (λ p:Str×Bool=>∃C,W.nsIn K Zm p.1=Za (Za (.ref C))/\ExI K C/\W.kitOne K (.ref C) v=Za p.2/\W.exmOne K (.ref C) v=Za p.2) ((cs.map (·.1)).zip bs)
 | [],[],_,_,_=>.nil
 | (_,C)::_,_::_,.cons h r,e,q=>by
  simp only[kits,Zs,List.zip_cons_cons,ZY,Zl,beq_iff_eq] at q
  exact .cons ⟨C,h.1,h.2,q.1.1,q.1.2⟩ (J0b r (by simpa using e) (by simpa only[kits] using q.2))
 | [],_::_,_,e,_=>by cases e
 | _::_,[],_,e,_=>by cases e
theorem Jzv (ces:List (Str×Zi))(fn:All (λ p:Str×D4=>∃fa fd,mg p.1=Za (.ref fa)/\DefOk K p.1 p.2 fa fd) T.fns)
  (cls:All (λ p:Str×D4=>∃C fa fd,mg p.1=Za (.ref C)/\ceOf ces p.1=Za C/\Mk K C fa/\DefOk K "__init__" p.2 fa fd) T.clss)
  (meth:All (λ q:Str×List (Str×D4)=>∃C,ceOf ces q.1=Za C/\All (λ p:Str×D4=>∃fa fd,Meth K C p.1 fa/\DefOk K p.1 p.2 fa fd) q.2) T.meths)
  (con:All (λ p:Str×IV=>∃u y,mg p.1=Za u/\RelV y u/\∀ι H,RV K ι H p.2 y) T.cons)
  (cl:All (λ p:Str×Zi=>ClsI K p.2/\All (λ f=>Va K p.2 f) T.flds) ces)
  (isa:All (λ q:Str×List Str=>∃D,mg q.1=Za (.ref D)/\W.kitOne K (.type "NoneType") (.ref D)=Za Zj/\W.kitOne K (.type "bool") (.ref D)=Za Zj/\W.kitOne K (.type "int") (.ref D)=Za Zj/\W.kitOne K (.type "str") (.ref D)=Za Zj /\
   W.kitOne K (.type "list") (.ref D)=Za Zj/\W.kitOne K (.type "tuple") (.ref D)=Za Zj/\W.kitOne K (.type "dict") (.ref D)=Za Zj/\All (λ p:Str×Zi=>W.kitOne K (.ref p.2) (.ref D)=Za (memS p.1 q.2)) ces) T.isas)
  (free:All (λ x=>mg x=Zb) T.frees)
  (raz:All (λ x=>∃C,mg x=Za (.ref C)/\W.nsIn K Zm x=Za (Za (.ref C))/\XCls K C) T.razs:=by exact .nil)
  (xis:All (λ q:Str×List (Str×Bool)=>∃v,(mg q.1=Za v∨(mg q.1=Zb/\Zbp q.1=Za v))/\All (λ p:Str×Bool=>∃C,W.nsIn K Zm p.1=Za (Za (.ref C))/\ExI K C/\W.kitOne K (.ref C) v=Za p.2/\W.exmOne K (.ref C) v=Za p.2) q.2) T.xis:=by exact .nil)
  (bas:All (λ x=>∃C,mg x=Za (.ref C)/\BasK K C) T.bass:=by exact .nil)
  (wr:All (λ q:Str×D4=>(∃fa fd,mg q.1=Za (.ref fa)/\DefOk K q.1 q.2 fa fd)/\∃p,q.2.ps=[p]/\q.2.dvs=[]) T.wrs:=by exact .nil)
  (nes:All (λ c=>∃C,ceOf ces c=Za C/\neIn K C=Ze/\W.kitOne K (.ref C) (.type "list")=Za Zj) T.nes:=by exact .nil)
  (xms:All (λ p:Str×D4=>∃C fa fd,mg p.1=Za (.ref C)/\W.nsIn K Zm p.1=Za (Za (.ref C))/\JQ K C fa=Ze/\W.keepIn K (.ref C)=Ze/\(∀h:ZT,K.In h->ExC h C)/\DefOk K "__init__" p.2 fa fd) T.xms:=by exact .nil)
  (xfs:All (λ q:Str×List Str=>All (λ c=>∃C,W.nsIn K Zm c=Za (Za (.ref C))/\StoX K C q.1/\ExI K C/\W.findIn K (.ref C) q.1=Za Zb) q.2) T.xfs:=by exact .nil)
  (xbs:All (λ x=>∃C,mg x=Za (.ref C)/\BasX K C) T.xbs:=by exact .nil):TabOk (ceOf ces) T K mg:=by
 refine⟨λ x d h=>fn.mem h,λ x d h=>cls.mem h,λ c l m d hc hm=>?_,λ x v h=>con.mem h,λ D l h=>?_,λ f hf=>?_,λ x h=>free.mem h,λ x h=>raz.mem h,λ D l h=>?_,λ x h=>bas.mem h,λ x d h=>let ⟨⟨fa,fd,a,b⟩,p,c,e⟩:=wr.mem h;⟨fa,fd,p,a,b,c,e⟩,λ c h=>let ⟨C,p,q,r⟩:=nes.mem h;⟨C,p,q,(cl.mem (JS p)).1,r⟩,λ x d h=>xms.mem h,λ f l c h hc=>(xfs.mem h).mem hc,λ x h=>xbs.mem h⟩
 ·obtain⟨C,hC,hl⟩:=meth.mem hc
  obtain⟨fa,fd,me,ok⟩:=hl.mem hm
  exact⟨C,fa,fd,hC,(cl.mem (JS hC)).1.cl,me,ok⟩
 ·obtain⟨C,hC,h1,h2,h3,h4,h5,h6,h7,h8⟩:=isa.mem h
  refine⟨_,hC,⟨λ b e=>?_,λ b e=>?_,λ b e=>?_,λ b e=>?_,λ b e=>?_,λ b e=>?_,λ b e=>?_,λ k C' b e hk=>?_,(λ k C' b e=>by cases e)⟩⟩
  ·cases e;exact h1
  ·cases e;exact h2
  ·cases e;exact h3
  ·cases e;exact h4
  ·cases e;exact h5
  ·cases e;exact h6
  ·cases e;exact h7
  ·cases e
   exact⟨(cl.mem (JS hk)).1,h8.mem (JS hk)⟩
 ·intro c C e
  obtain⟨h1,h2⟩:=cl.mem (JS e)
  exact⟨h1.cl,h2.mem hf⟩
 ·obtain⟨v,hv,hl⟩:=xis.mem h
  exact⟨v,hv,λ c b hc=>hl.mem hc⟩
theorem len1 {α:Type}{P:List α->Prop}(F0:∀a,P [a]):∀us:List α,us.length=1->P us
 | [a],_=>F0 a
theorem len2 {α:Type}{P:List α->Prop}(F0:∀a b,P [a,b]):∀us:List α,us.length=2->P us
 | [a,b],_=>F0 a b
theorem len3 {α:Type}{P:List α->Prop}(F0:∀a b c,P [a,b,c]):∀us:List α,us.length=3->P us
 | [a,b,c],_=>F0 a b c
theorem len4 {α:Type}{P:List α->Prop}(F0:∀a b c d,P [a,b,c,d]):∀us:List α,us.length=4->P us
 | [a,b,c,d],_=>F0 a b c d
theorem len5 {α:Type}{P:List α->Prop}(F0:∀a b c d e,P [a,b,c,d,e]):∀us:List α,us.length=5->P us
 | [a,b,c,d,e],_=>F0 a b c d e
theorem len6 {α:Type}{P:List α->Prop}(F0:∀a b c d e f,P [a,b,c,d,e,f]):∀us:List α,us.length=6->P us
 | [a,b,c,d,e,f],_=>F0 a b c d e f
theorem len7 {α:Type}{P:List α->Prop}(F0:∀a b c d e f g,P [a,b,c,d,e,f,g]):∀us:List α,us.length=7->P us
 | [a,b,c,d,e,f,g],_=>F0 a b c d e f g
theorem J1s:∀j:Nat,j<=3->j=0∨j=1∨j=2∨j=3:=by omega
theorem Jtn {x:Str}{d:D4}{fa:Zi}{oc kV doc pm cdv ct:Zd}{od an:Option Zi}{osl:Array (Option Zd)}(lk:K.lookup fa=Za ⟨oc,od,.func (W.fnOf x d.qual (Qf d.st) (JG d.st) (Jx d.st) .none kV doc pm an cdv ct),osl⟩)
  (hc:W.codeIn K cdv d.qual=Ze)(hk:W.keepIn K (.ref fa)=Ze)(sc:FnScope d.N d.ps (Jx d.st))(hd:d.dvs=[])
  (hb:∀us:List Zd,us.length=d.ps.length->ZdH (W.fnOf x d.qual (Qf d.st) (JG d.st) (Jx d.st) .none kV doc pm an cdv ct) ⟨us,[]⟩=pure (d.ps.zip us)) :
  DefOk K x d fa (W.fnOf x d.qual (Qf d.st) (JG d.st) (Jx d.st) .none kV doc pm an cdv ct) :=
 ⟨⟨_,⟨oc,od,kV,doc,pm,an,cdv,ct,osl,rfl,lk,hc⟩,hk⟩,sc,λ j hj=>⟨[],.all hb,by rw[hd];simp,[],.nil,by rw[hd];intro _ _;cases j<;>exact rfl⟩⟩
def scOk (N P:List Str)(sc:Zba):Bool :=
 sc.kind==.function&&!sc.isCoroutine&&!sc.isGenerator&&decide N.Nodup&&decide (N.take P.length=P)&&P.all (λ x=>sc.names.lookup x==Za .local||sc.names.lookup x==Za .cell)&&sc.names.all (λ y=>!(y.2==.free))
theorem scOk.of {N P:List Str}{sc:Zba}(h:scOk N P sc=Ze):FnScope N P sc:=by
 simp only[scOk,Zl,beq_iff_eq,ZaH,decide_eq_true_eq,ZcR,Zaq,beq_eq_false_iff_ne] at h
 obtain⟨⟨⟨⟨⟨⟨h1,h2⟩,h3⟩,h4⟩,h5⟩,h6⟩,h7⟩:=h
 exact⟨h1,h2,h3,h4,h5,h6,h7⟩
def FnB (x q:Str)(d:D4):Prop:=FnScope d.N d.ps (Jx d.st)/\d.dvs=[]/\d.qual=q/\∀(kV doc pm:Zd)(an:Option Zi)(cdv ct:Zd)(us:List Zd),us.length=d.ps.length->ZdH (W.fnOf x d.qual (Qf d.st) (JG d.st) (Jx d.st) .none kV doc pm an cdv ct) ⟨us,[]⟩=pure (d.ps.zip us)
section
variable {x q:Str}{d:D4}{h:ZT}{a C:Zi}{oc kV dc pm cd ct:Zd}{od an:Option Zi}{sl:Array (Option Zd)}
theorem Jlj (B:FnB x q d)(hl:K.lookup a=Za ⟨oc,od,.func (W.fnOf x q (Qf d.st) (JG d.st) (Jx d.st) .none kV dc pm an cd ct),sl⟩)(hc:W.codeIn K cd q=Ze)(hk:W.keepIn K (.ref a)=Ze):∃fd,DefOk K x d a fd:=by
 obtain⟨s,v,rfl,b⟩:=B
 exact⟨_,Jtn hl hc hk s v (b _ _ _ _ _ _)⟩
theorem J6 (X:K.In h)(G:h.Ns Zm mg)(B:FnB x q d)(ha:W.nsIn K Zm x=Za (Za (.ref a)):=by k_is)(hl:K.lookup a=Za ⟨oc,od,.func (W.fnOf x q (Qf d.st) (JG d.st) (Jx d.st) .none kV dc pm an cd ct),sl⟩:=by k_is)(hc:W.codeIn K cd q=Ze:=by k_is)(hk:W.keepIn K (.ref a)=Ze:=by k_is):∃fa fd,mg x=Za (.ref fa)/\DefOk K x d fa fd :=
 let ⟨fd,D⟩:=Jlj B hl hc hk
 ⟨a,fd,W.mg_of X G ha,D⟩
theorem XO (B:FnB x q d)(ha:W.findIn K (.ref C) x=Za (Za (.ref a)):=by k_is)(hi:W.isFn K (.ref a)=Ze:=by k_is)(hl:K.lookup a=Za ⟨oc,od,.func (W.fnOf x q (Qf d.st) (JG d.st) (Jx d.st) .none kV dc pm an cd ct),sl⟩:=by k_is)(hc:W.codeIn K cd q=Ze:=by k_is)(hk:W.keepIn K (.ref a)=Ze:=by k_is):∃fa fd,Meth K C x fa/\DefOk K x d fa fd :=
 let ⟨fd,D⟩:=Jlj B hl hc hk
 ⟨a,fd,⟨ha,hi,hk⟩,D⟩
theorem J03 (B:FnB "__init__" q d)(ha:W.findIn K (.ref C) "__init__"=Za (Za (.ref a)):=by k_is)(hi:W.isFn K (.ref a)=Ze:=by k_is)(hl:K.lookup a=Za ⟨oc,od,.func (W.fnOf "__init__" q (Qf d.st) (JG d.st) (Jx d.st) .none kV dc pm an cd ct),sl⟩:=by k_is)(hc:W.codeIn K cd q=Ze:=by k_is)(hk:W.keepIn K (.ref a)=Ze:=by k_is)(hm:W.makesIn K C=Ze:=by k_is)(hq:W.keepIn K (.ref C)=Ze:=by k_is):∃fa fd,Mk K C fa/\DefOk K "__init__" d fa fd :=
 let ⟨fd,D⟩:=Jlj B hl hc hk
 ⟨a,fd,⟨hm,ha,hi,hq⟩,D⟩
end
theorem Jxt {C f:Zi}(x:JQ K C f=Ze)(h:ZT)(I:K.In h):ExC h C:=by
 obtain⟨bm,N,nm,q,bs,hdct,sn,sub,ab,col,dd,k0,k1,k2,k3,k5,mN,oI,h1,_,_,T,_⟩:=JQ.obj x I
 exact⟨nm,q,N,bs,bm,hdct,sn,sub,ab,col,dd,k0,k1,k2,k3,k5,_,h1,T.hasType (by decide)⟩
theorem Jyt {q:Str}{d:D4}{a C:Zi}{oc kV dc pm cd ct:Zd}{od an:Option Zi}{sl:Array (Option Zd)}(B:FnB "__init__" q d)(_:W.findIn K (.ref C) "__init__"=Za (Za (.ref a)))(hl:K.lookup a=Za ⟨oc,od,.func (W.fnOf "__init__" q (Qf d.st) (JG d.st) (Jx d.st) .none kV dc pm an cd ct),sl⟩)(hc:W.codeIn K cd q=Ze)(hk:W.keepIn K (.ref a)=Ze)(hx:JQ K C a=Ze)(hq:W.keepIn K (.ref C)=Ze):∃fa fd,JQ K C fa=Ze/\W.keepIn K (.ref C)=Ze/\DefOk K "__init__" d fa fd :=
 let ⟨fd,D⟩:=Jlj B hl hc hk
 ⟨a,fd,hx,hq,D⟩
theorem Jvq {ce:CeT}{prog:ZA}{w:ZM}{base:ZT}(O:TabOk ce T K mg)(B:T.tabs≠[]->Q7 mg base)(k:Nat){d:D4}{fa:Zi}{fd:Zam}{x:Str}(hp:d.ps=[x])(ok:DefOk K "law" d fa fd) :
  FnOk prog w K mg base (CXI prog w) (4*k) fa fd [x] (Xm K x (run T k d)):=by
 have:=(Jto (prog:=prog) (w:=w) (base:=base) O B k "law" d fa fd ok).ok
 rw[hp] at this
 exact Jrn this
end
def WR {α:Type}(r:Res α)(Q:α->IH->Prop):Prop:=match r with
 | .ok a h=>Q a h
 | _=>False
def WS (r:SRes)(N:ISt->IH->Prop)(R:IV->IH->Prop):Prop:=match r with
 | .next σ h=>N σ h
 | .ret v h=>R v h
 | _=>False
section
variable {α β:Type}{σ:ISt}{h:IH}{Q:α->IH->Prop}{N:ISt->IH->Prop}{R:IV->IH->Prop}
theorem WR.mono {r:Res α}{P Q:α->IH->Prop}(x:WR r P)(f:∀a h,P a h->Q a h):WR r Q:=by
 cases r with
 | ok a h=>exact f a h x
 | exc n h=>exact x
 | stuck=>exact x
theorem Jf {r:Res α}{a:α}{h:IH}(e:r=.ok a h)(q:Q a h):WR r Q:=by rw[e];exact q
theorem WR.eq {r:Res α}(x:WR r Q):∃a h,r=.ok a h/\Q a h:=by
 cases r with
 | ok a h=>exact⟨a,h,rfl,x⟩
 | exc n h=>exact x.elim
 | stuck=>exact x.elim
theorem WS.mono {r:SRes}{N N':ISt->IH->Prop}{R R':IV->IH->Prop}(x:WS r N R)(f:∀σ h,N σ h->N' σ h)(g:∀v h,R v h->R' v h):WS r N' R':=by
 cases r with
 | next σ h=>exact f σ h x
 | ret v h=>exact g v h x
 | _=>exact x
theorem QW (a:α):WR (.ok a h) Q=Q a h:=rfl
theorem Jq (r:Res α)(f:α->IH->Res β)(Q:β->IH->Prop):WR (r.bind f) Q=WR r λ a h=>WR (f a h) Q:=by cases r<;>rfl
theorem Jxa (r:Res α):WR r.nx Q=WR r Q:=by cases r<;>rfl
theorem QJ (c:Prop)[Decidable c](x y:Res α):WR (if c then x else y) Q=((c->WR x Q)/\(¬c->WR y Q)):=by
 by_cases hc:c<;>simp[hc]
theorem QK (r:Res α)(k:α->IH->SRes):WS (rS σ r k) N R=WR r λ a h=>WS (k a h) N R:=by cases r<;>rfl
theorem Jlz (r:SRes)(Q:IV->IH->Prop):WR r.fin Q=WS r (λ _ h=>Q .non h) Q:=by
 cases r with
 | exc n σ h=>show WR (match h[n]? with|some (.exc _ _)=>Res.exc n h|_=>Res.stuck) Q=False;split<;>rfl
 | _=>rfl
theorem Jkv (σ:ISt):WS (.next σ h) N R=N σ h:=rfl
theorem Jqz (v:IV):WS (.ret v h) N R=R v h:=rfl
theorem Jl7 (a b:S1):WS (Je a b σ h) N R=WS (a σ h) (λ σ1 h1=>WS (b σ1 h1) N R) R:=by
 unfold Je;cases a σ h<;>rfl
theorem Jqy:WS (Jv σ h) N R=N σ h:=rfl
theorem Jkw:WS (Jss σ h) N R=N σ h:=rfl
theorem Jl8 (i:Nat)(e:E1):WS (Ji i e σ h) N R=WR (e σ h) λ v h1=>N (σ.set i (Za v)) h1:=by unfold Ji;rw[QK];rfl
theorem Jtd (t:T1)(a b:S1):WS (sIf t a b σ h) N R=WR (t σ h) λ c h1=>(c=Ze->WS (a σ h1) N R)/\(c=Zj->WS (b σ h1) N R):=by
 unfold sIf;rw[QK];congr 1;funext c h1;cases c<;>simp
theorem Jin (e:E1):WS (Jm e σ h) N R=WR (e σ h) R:=by unfold Jm;rw[QK];rfl
theorem Jkx:WS (Jwd σ h) N R=R .non h:=rfl
theorem Jim (e:E1):WS (JT e σ h) N R=WR (e σ h) λ _ h1=>N σ h1:=by unfold JT;rw[QK];rfl
theorem Jqw (e:E1)(g:G1):WS (sAsg e g σ h) N R=WR (e σ h) λ v h1=>WS (g v σ h1) N R:=by unfold sAsg;rw[QK]
theorem Jqx (i:Nat)(v:IV):WS (gNm i v σ h) N R=N (σ.set i (Za v)) h:=rfl
theorem Jz7 (n:Nat)(g:List IV->ISt->IH->SRes)(xs:List IV):WS (gTp n g (.tup xs) σ h) N R=(xs.length=n/\WS (g xs σ h) N R):=by
 unfold gTp
 by_cases hn:xs.length=n
 ·simp[hn]
 ·simp[hn,WS]
theorem J1w:WS (gN [] σ h) N R=N σ h:=rfl
theorem J1v (i:Nat)(r:List IV->ISt->IH->SRes)(v:IV)(vs:List IV):WS (gC (gNm i) r (v::vs) σ h) N R=WS (r vs (σ.set i (Za v)) h) N R:=rfl
theorem Jku (f:Str)(o e:E1):WS (Q0 f o e σ h) N R=WR (e σ h) λ v h1=>WR (o σ h1) λ ov h2=>∃i c fs,ov=.ref i/\h2[i]?=Za (.ins c fs)/\fs.length<1000/\N σ (h2.set i (.ins c (putI f v fs))):=by
 unfold Q0;rw[QK];congr 1;funext v h1;rw[QK];congr 1;funext ov h2
 cases ov with
 | ref i =>
  cases e:h2[i]? with
  | none=>simp[WS,e]
  | some o =>
   cases o with
   | ins c fs =>
    by_cases hl:fs.length<1000
    ·simp only[e,hl,if_true,WS]
     refine propext ⟨λ q=>⟨i,c,fs,rfl,e,hl,q⟩,λ ⟨i',c',fs',e1,e2,_,q⟩=>?_⟩
     cases e1
     rw[e] at e2
     cases e2
     exact q
    ·simp only[e,hl,if_false,WS]
     refine propext ⟨λ q=>q.elim,λ ⟨i',c',fs',e1,e2,hl',_⟩=>?_⟩
     cases e1
     rw[e] at e2
     cases e2
     exact hl hl'
   | _=>simp[WS,e]
 | _=>simp[WS]
theorem Ym (it:I1)(g:G1)(b:S1):WS (sFor it g b σ h) N R=WR (it σ h) λ J h1=>WS (JU J.chk g b J.xs σ h1) N R:=by unfold sFor;rw[QK]
theorem Qr (v:IV)(Q:IV->IH->Prop):WR (eC v σ h) Q=Q v h:=rfl
theorem Vl (f:IV->IV->IH->Res IV)(a b:E1)(Q:IV->IH->Prop):WR (Jc f a b σ h) Q=WR (a σ h) λ x h1=>WR (b σ h1) λ y h2=>WR (f x y h2) Q:=by
 unfold Jc;rw[Jq];congr 1;funext x h1;rw[Jq]
theorem Jtc (f:IV->IH->Res IV)(a:E1)(Q:IV->IH->Prop):WR (eUn f a σ h) Q=WR (a σ h) λ x h1=>WR (f x h1) Q:=by unfold eUn;rw[Jq]
theorem Jqf (a b:E1)(tr:IV->IH->Res Bool)(Q:IV->IH->Prop):WR (eAnd a b tr σ h) Q=WR (a σ h) λ x h1=>WR (tr x h1) λ c h2=>(c=Ze->WR (b σ h2) Q)/\(c=Zj->Q x h2):=by
 unfold eAnd;rw[Jq];congr 1;funext x h1;rw[Jq];congr 1;funext c h2;cases c<;>simp[WR]
theorem Jxb (a b:E1)(tr:IV->IH->Res Bool)(Q:IV->IH->Prop):WR (eOr a b tr σ h) Q=WR (a σ h) λ x h1=>WR (tr x h1) λ c h2=>(c=Ze->Q x h2)/\(c=Zj->WR (b σ h2) Q):=by
 unfold eOr;rw[Jq];congr 1;funext x h1;rw[Jq];congr 1;funext c h2;cases c<;>simp[WR]
theorem Jw2 (t:T1)(a b:E1)(Q:IV->IH->Prop):WR (eIf t a b σ h) Q=WR (t σ h) λ c h1=>(c=Ze->WR (a σ h1) Q)/\(c=Zj->WR (b σ h1) Q):=by
 unfold eIf;rw[Jq];congr 1;funext c h1;cases c<;>simp
theorem Jik (a b:T1)(Q:Bool->IH->Prop):WR (Q3 a b σ h) Q=WR (a σ h) λ c h1=>(c=Ze->WR (b σ h1) Q)/\(c=Zj->Q Zj h1):=by
 unfold Q3;rw[Jq];congr 1;funext c h1;cases c<;>simp[WR]
theorem Jqu (a b:T1)(Q:Bool->IH->Prop):WR (tOrI a b σ h) Q=WR (a σ h) λ c h1=>(c=Ze->Q Ze h1)/\(c=Zj->WR (b σ h1) Q):=by
 unfold tOrI;rw[Jq];congr 1;funext c h1;cases c<;>simp[WR]
theorem Jil (a:T1)(Q:Bool->IH->Prop):WR (J8 a σ h) Q=WR (a σ h) λ c h1=>Q (!c) h1:=by unfold J8;rw[Jq];rfl
theorem Xs (tr:IV->IH->Res Bool)(a:E1)(Q:Bool->IH->Prop):WR (Jh tr a σ h) Q=WR (a σ h) λ x h1=>WR (tr x h1) Q:=by unfold Jh;rw[Jq]
theorem Jfl (f g:IV->IV->IH->Res IV)(a b c:E1)(Q:IV->IH->Prop):WR (QB f g a b c σ h) Q=WR (a σ h) λ x h1=>WR (b σ h1) λ y h2=>WR (f x y h2) λ k h3=>∃t,k=.bl t/\(t=Ze->WR (c σ h3) λ z h4=>WR (g y z h4) Q)/\(t=Zj->Q (.bl Zj) h3):=by
 unfold QB;rw[Jq];congr 1;funext x h1;rw[Jq];congr 1;funext y h2;rw[Jq];congr 1;funext k h3
 cases k with
 | bl t =>
  cases t with
  | true =>
   show WR ((c σ h3).bind λ z h4=>g y z h4) Q=_
   rw[Jq]
   simp
  | false=>simp[WR]
 | _=>simp[WR]
theorem Jkp (Q:List IV->IH->Prop):WR (Jd σ h) Q=Q [] h:=rfl
theorem QV (a:E1)(r:A1)(Q:List IV->IH->Prop):WR (Jb a r σ h) Q=WR (a σ h) λ x h1=>WR (r σ h1) λ xs h2=>Q (x::xs) h2:=by
 unfold Jb;rw[Jq];congr 1;funext x h1;rw[Jq];rfl
theorem Jl6 (a:A1)(Q:IV->IH->Prop):WR (eTup a σ h) Q=WR (a σ h) λ xs h1=>xs.length<=sizeLine/\Q (.tup xs) h1:=by
 unfold eTup;rw[Jq];congr 1;funext xs h1;rw[QJ]
 by_cases hz:xs.length<=sizeLine<;>simp[hz,WR]
theorem VM (a:A1)(Q:IV->IH->Prop):WR (J7 a σ h) Q=WR (a σ h) λ xs h1=>xs.length<=sizeLine/\Q (.ref h1.length) (h1++[.lst xs]):=by
 unfold J7;rw[Jq];congr 1;funext xs h1;rw[QJ]
 by_cases hz:xs.length<=sizeLine<;>simp[hz,WR]
theorem Qj (f:List IV->IH->Res IV)(d:List IV)(a:A1)(Q:IV->IH->Prop):WR (Jn f d a σ h) Q=WR (a σ h) λ vs h1=>WR (f (vs++d) h1) Q:=by
 unfold Jn;rw[Jq]
theorem VN (c:Str)(f:List IV->IH->Res IV)(d:List IV)(a:A1)(Q:IV->IH->Prop):WR (Qn c f d a σ h) Q=WR (a σ h) λ vs h1=>WR (f (.ref h1.length::(vs++d)) (h1++[.ins c []])) λ r h2=>r=.non/\Q (.ref h1.length) h2:=by
 unfold Qn;rw[Jq];congr 1;funext vs h1;rw[Jq];congr 1;funext r h2;cases r<;>simp[WR]
theorem Jwv (f:List IV->IH->Res IV)(a:A1)(Q:IV->IH->Prop):WR (eCB f a σ h) Q=WR (a σ h) λ vs h1=>WR (f vs h1) Q:=by unfold eCB;rw[Jq]
theorem Jqs (f:IV->IH->Res IV)(x:IV)(Q:IV->IH->Prop):WR (on1 f [x] h) Q=WR (f x h) Q:=rfl
theorem Jl0 (ans:Ty->Option Bool)(e:E1)(Q:IV->IH->Prop):WR (eIsi ans e σ h) Q=WR (e σ h) λ v h1=>∃b,(tyI v h1).bind ans=Za b/\Q (.bl b) h1:=by
 unfold eIsi;rw[Jq];congr 1;funext v h1
 cases (tyI v h1).bind ans<;>simp[WR]
theorem Jii (Q:Option Int->IH->Prop):WR (XQ σ h) Q=Q Zb h:=rfl
theorem Jij (e:E1)(Q:Option Int->IH->Prop):WR (Qy e σ h) Q=WR (e σ h) λ v h1=>∃i,v=.int i/\Q (Za i) h1:=by
 unfold Qy;rw[Jq];congr 1;funext v h1;cases v<;>simp[WR]
theorem Yl (f:IV->Option Int->Option Int->IH->Res IV)(e:E1)(lo hi:O1)(Q:IV->IH->Prop):WR (eSl f e lo hi σ h) Q=WR (e σ h) λ x h1=>WR (lo σ h1) λ l h2=>WR (hi σ h2) λ u h3=>WR (f x l u h3) Q:=by
 unfold eSl;rw[Jq];congr 1;funext x h1;rw[Jq];congr 1;funext l h2;rw[Jq]
def QC (f:Str)(v:IV)(h:IH):Option IV:=match v with
 | .ref i=>(match h[i]? with
  | some (.ins _ fs)=>fs.lookup f
  | _=>Zb)
 | _=>Zb
theorem Jqk (f:Str)(o:E1)(Q:IV->IH->Prop):WR (eFld f o σ h) Q=WR (o σ h) λ v h1=>∃x,QC f v h1=Za x/\Q x h1:=by
 unfold eFld;rw[Jq];congr 1;funext v h1
 cases v with
 | ref i =>
  unfold QC
  cases e:h1[i]? with
  | none=>simp[WR,e]
  | some ob =>
   cases ob with
   | ins c fs=>cases e2:fs.lookup f<;>simp[WR,e,e2]
   | _=>simp[WR,e]
 | _=>simp[WR,QC]
variable {i j:Int}{x y:Str}{P:IV->IH->Prop}
theorem Jly (i j:Int):WR (Jl (.int i) (.int j) h) P=P (.int (i+j)) h:=rfl
theorem Jqt (i j:Int):WR (Qi (.int i) (.int j) h) P=P (.int (i-j)) h:=rfl
theorem Jqp (i:Int):WR (Jv2 (.int i) h) P=P (.int (-i)) h:=rfl
theorem Jl4 (i j:Int):WR (JW (.int i) (.int j) h) P=(Q8 i j/\P (.int (i*j)) h):=by
 show WR (Xh (.int i) (.int j) h) P=_
 unfold Xh;rw[QJ];by_cases hm:Q8 i j<;>simp[hm,WR]
theorem Jif (i j:Int):WR (JI (.int i) (.int j) h) P=((0<j/\j.natAbs.log2<9000)/\P (.int (i/j)) h):=by
 unfold JI;rw[QJ];by_cases hm:0<j/\j.natAbs.log2<9000<;>simp[hm,WR]
theorem Jl3 (i j:Int):WR (J2 (.int i) (.int j) h) P=(0<j/\P (.int (i%j)) h):=by
 unfold J2;rw[QJ];by_cases hm:0<j<;>simp[hm,WR]
theorem VO (i j:Int):WR (JK (.int i) (.int j) h) P=((0<=j/\j<=1000000/\i.natAbs<2^64)/\P (.int (i^j.toNat)) h):=by
 unfold JK;rw[QJ];by_cases hm:0<=j/\j<=1000000/\i.natAbs<2^64<;>simp[hm,WR]
theorem Jid (x y:Str):WR (Jl (.str x) (.str y) h) P=(x.length+y.length<=sizeLine/\P (.str (x++y)) h):=by
 unfold Jl;rw[QJ];by_cases hm:x.length+y.length<=sizeLine<;>simp[hm,WR]
theorem Jw6 (i j:Int):WR (cLt (.int i) (.int j) h) P=P (.bl (decide (i<j))) h:=rfl
theorem Jw4 (i j:Int):WR (cLe (.int i) (.int j) h) P=P (.bl (decide (i<=j))) h:=rfl
theorem Jz5 (x y:Str):WR (cLe (.str x) (.str y) h) P=P (.bl (!decide (y.cps.toList<x.cps.toList))) h:=rfl
theorem Jw1 (i j:Int):WR (cGt (.int i) (.int j) h) P=P (.bl (decide (j<i))) h:=rfl
theorem Jw0 (i j:Int):WR (cGe (.int i) (.int j) h) P=P (.bl (decide (j<=i))) h:=rfl
theorem Jwz (i j:Int):WR (cEq (.int i) (.int j) h) P=P (.bl (decide (i=j))) h:=rfl
theorem Jw9 (i j:Int):WR (cNe (.int i) (.int j) h) P=P (.bl (!decide (i=j))) h:=rfl
theorem Jqi (x y:Str):WR (cEq (.str x) (.str y) h) P=P (.bl (decide (x=y))) h:=rfl
theorem Jqq (x y:Str):WR (cNe (.str x) (.str y) h) P=P (.bl (!decide (x=y))) h:=rfl
theorem Jqh (b:Bool)(P:Bool->IH->Prop):WR (asB (.bl b) h) P=P b h:=rfl
theorem Jkt (b:Bool)(P:Bool->IH->Prop):WR (tru (.bl b) h) P=P b h:=rfl
theorem Jqr (tr:IV->IH->Res Bool)(v:IV):WR (Vy tr v h) P=WR (tr v h) λ c h1=>P (.bl (!c)) h1:=by unfold Vy;rw[Jq];rfl
theorem Xq (v w:IV):WR (cIs v w h) P=∃b,isI v w=Za b/\P (.bl b) h:=by unfold cIs;cases isI v w<;>simp[WR]
theorem Jl1 (v w:IV):WR (V6 v w h) P=∃b,isI v w=Za b/\P (.bl (!b)) h:=by unfold V6;cases isI v w<;>simp[WR]
theorem Q6 {chk:IH->Prop}{g:G1}{b:S1}(I:Nat->ISt->IH->Prop){xs:List IV}(hc:∀i σ h,I i σ h->chk h)
  (turn:∀i (hi:i<xs.length) σ h,I i σ h->WS (g xs[i] σ h) (λ σ1 h1=>WS (b σ1 h1) (I (i+1)) R) λ _ _=>False)(done:∀σ h,I xs.length σ h->N σ h)(start:I 0 σ h):WS (JU chk g b xs σ h) N R:=by
 have key:∀(n i:Nat)(σ:ISt)(h:IH),xs.length-i=n->i<=xs.length->I i σ h->WS (JU chk g b (xs.drop i) σ h) N R:=by
  intro n
  induction n with
  | zero =>
   intro i σ h hn hi hI
   have:i=xs.length:=by omega
   subst this
   rw[ZdR]
   unfold JU
   rw[if_pos (hc _ _ _ hI)]
   exact done _ _ hI
  | succ n ih =>
   intro i σ h hn hi hI
   have hlt:i<xs.length:=by omega
   rw[Zaw hlt]
   unfold JU
   rw[if_pos (hc _ _ _ hI)]
   have t:=turn i hlt σ h hI
   cases eg:g xs[i] σ h with
   | next σ1 h1 =>
    rw[eg] at t
    have t':WS (b σ1 h1) (I (i+1)) R:=t
    dsimp only
    cases eb:b σ1 h1 with
    | next σ2 h2=>rw[eb] at t';exact ih (i+1) σ2 h2 (by omega) hlt t'
    | ret v h2=>rw[eb] at t';exact t'
    | brk σ2 h2=>rw[eb] at t';exact t'.elim
    | cont σ2 h2=>rw[eb] at t';exact t'.elim
    | exc m σ2 h2=>rw[eb] at t';exact t'.elim
    | stuck=>rw[eb] at t';exact t'.elim
   | ret v h1=>rw[eg] at t;exact t.elim
   | brk σ2 h2=>rw[eg] at t;exact t.elim
   | cont σ2 h2=>rw[eg] at t;exact t.elim
   | exc m σ2 h2=>rw[eg] at t;exact t.elim
   | stuck=>rw[eg] at t;exact t.elim
 have:=key xs.length 0 σ h (by omega) (Zal _) start
 simpa using this
end
section
variable {α:Type}{h h1:IH}{a:α}{r:Res α}{P:IV->IH->Prop}
theorem Jz (x:WR r λ v h'=>v=a/\h'=h1):r=.ok a h1:=by
 obtain⟨_,_,e,rfl,rfl⟩:=x.eq
 exact e
theorem Xr (xs:List IV)(n:Int):WR (Jk (.tup xs) (.int n) h) P=∃x,atI xs n=Za x/\P x h:=by
 unfold Jk;cases e:atI xs n<;>simp[WR,e]
theorem Yf (xs:List IV)(n:Int):WR (Jk (.rol xs) (.int n) h) P=∃x,atI xs n=Za x/\P x h:=by
 unfold Jk;cases e:atI xs n<;>simp[WR,e]
theorem Jz4 (i:Nat)(n:Int):WR (Jk (.ref i) (.int n) h) P=∃xs,h[i]?=Za (.lst xs)/\∃x,atI xs n=Za x/\P x h:=by
 unfold Jk
 cases e:h[i]? with
 | none=>simp[WR,e]
 | some o =>
  cases o with
  | lst xs=>cases e2:atI xs n<;>simp[WR,e,e2]
  | _=>simp[WR,e]
theorem Yj (xs:List IV):WR (lenI (.tup xs) h) P=P (.int xs.length) h:=rfl
theorem Yh (xs:List IV):WR (lenI (.rol xs) h) P=P (.int xs.length) h:=rfl
theorem Yg (i:Nat):WR (lenI (.ref i) h) P=∃xs,h[i]?=Za (.lst xs)/\P (.int xs.length) h:=by
 unfold lenI
 cases e:h[i]? with
 | none=>simp[WR,e]
 | some o=>cases o<;>simp[WR,e]
theorem Yi (x:Str):WR (lenI (.str x) h) P=(x.length<=sizeLine/\P (.int x.length) h):=by
 unfold lenI;rw[QJ];by_cases hm:x.length<=sizeLine<;>simp[hm,WR]
theorem Qc {xs:List α}{n:Nat}{x:α}(e:xs[n]?=Za x):atI xs (n:Int)=Za x:=by
 have hn:n<xs.length:=(Zn.mp e).1
 have:(n:Int)<xs.length:=by omega
 simp[atI,ixN,this,e]
theorem Vq {x:α}{xs:List α}:atI (x::xs) 0=Za x:=by simp[atI,ixN]
theorem Vr {x y:α}{xs:List α}:atI (x::y::xs) 1=Za y:=Qc (n:=1) rfl
theorem VU {x y z:α}{xs:List α}:atI (x::y::z::xs) 2=Za z:=Qc (n:=2) rfl
theorem X1 {x y z u v:α}{xs:List α}:atI (x::y::z::u::v::xs) 4=Za v:=Qc (n:=4) rfl
theorem Juk {xs:List α}{n:Int}{x:α}(h0:0<=n)(e:xs[n.toNat]?=Za x):atI xs n=Za x:=by
 have:=Qc e
 rwa [Int.toNat_of_nonneg h0] at this
theorem XX (i:Int):tyI (.int i) h=Za .int:=rfl
theorem Yb (x:Str):tyI (.str x) h=Za .str:=rfl
theorem Yc (xs:List IV):tyI (.tup xs) h=Za .tup:=rfl
theorem XY (b:Bool):tyI (.bl b) h=Za .bl:=rfl
theorem XZ:tyI .non h=Za .non:=rfl
theorem Ya (xs:List IV):tyI (.rol xs) h=Za .lst:=rfl
theorem Jlv {i:Nat}{xs:List IV}(e:h[i]?=Za (.lst xs)):tyI (.ref i) h=Za .lst:=by simp[tyI,e]
theorem grow {i:Nat}{o:IX}{g:IH}(e:h[i]?=Za o):(h++g)[i]?=Za o:=by
 rw[Z7 (Zn.mp e).1];exact e
theorem Jw {o:IX}:(h++[o])[h.length]?=Za o:=by simp
theorem Vi {i:Nat}{o:IX}(e:h[i]?=Za o):i<h.length:=(Zn.mp e).1
theorem Jiv (f:IV->Bool):∀xs:List IV,Ve (xs.map λ x=>.bl (f x))=Za (xs.map f)
 | []=>rfl
 | x::xs=>by simp[Ve,Jiv f xs]
theorem all_map {f:IV->Bool}{i:Nat}{xs:List IV}(e:h[i]?=Za (.lst (xs.map λ x=>.bl (f x)))):allI (.ref i) h=.ok (.bl (xs.all f)) h:=by
 simp[allI,e,Jiv,List.all_map,Function.comp_def]
end
def Ex (h h':IH):Prop:=∃g,h'=h++g
theorem Ex.refl (h:IH):Ex h h:=⟨[],by simp⟩
theorem Ex.trans {h h1 h2:IH}(a:Ex h h1)(b:Ex h1 h2):Ex h h2:=by
 obtain⟨g,rfl⟩:=a
 obtain⟨g',rfl⟩:=b
 exact⟨g++g',by simp⟩
theorem Ex.get {h h':IH}(a:Ex h h'){i:Nat}{o:IX}(e:h[i]?=Za o):h'[i]?=Za o:=by
 obtain⟨g,rfl⟩:=a
 exact grow e
theorem Ex.one (h:IH)(o:IX):Ex h (h++[o]):=⟨[o],rfl⟩
theorem Ex.len {h h':IH}(a:Ex h h'):h.length<=h'.length:=by
 obtain⟨g,rfl⟩:=a
 simp
section
variable {α:Type}{h:IH}
theorem Jup {chk:IH->Prop}{t:T1}{e:E1}{caps:ISt}{p:IV->Bool}{f:IV->IV}(i0:Nat):∀{xs acc:List IV}{o:Option IV}{h1:IH},h1[i0]?=Za (.lst acc)->(∀h2,(∀j ob,j≠i0->h1[j]?=Za ob->h2[j]?=Za ob)->chk h2)->acc.length+xs.length<sizeLine ->
  (∀x∈xs,∀h2,(∀j ob,j≠i0->h1[j]?=Za ob->h2[j]?=Za ob)->WR (t (Za x::caps) h2) λ b h3=>b=p x/\Ex h2 h3) ->
  (∀x∈xs,p x=Ze->∀h2,(∀j ob,j≠i0->h1[j]?=Za ob->h2[j]?=Za ob)->WR (e (Za x::caps) h2) λ v h3=>v=f x/\Ex h2 h3) ->
  WR (Qd chk (gNm 0) t e i0 xs (o::caps) h1) λ v h3=>v=.ref i0/\∃g,h3=h1.set i0 (.lst (acc++(xs.filter p).map f))++g
 | [],acc,o,h1,hi,hc,_,_,_=>by
  unfold Qd
  rw[if_pos (hc h1 λ _ _ _ q=>q)]
  refine⟨rfl,[],?_⟩
  simp only[List.filter_nil,ZaB,ZaK]
  refine(ZbY λ j=>?_)
  by_cases hj:j=i0
  ·subst hj
   rw[hi,ZX (Vi hi)]
  ·rw[ZZ (ZW hj)]
 | x::xs,acc,o,h1,hi,hc,hl,ht,he=>by
  unfold Qd
  rw[if_pos (hc h1 λ _ _ _ q=>q)]
  dsimp only[gNm,ZbO]
  have hl':acc.length+xs.length+1<sizeLine:=by simpa [Nat.add_assoc] using hl
  obtain⟨b,h2,e1,rfl,x2⟩:=(ht x Zv h1 λ _ _ _ q=>q).eq
  rw[e1]
  have k12:∀j ob,j≠i0->h1[j]?=Za ob->h2[j]?=Za ob:=λ j ob _ q=>x2.get q
  cases hp:p x with
  | false =>
   dsimp only
   refine WR.mono (Jup i0 (x2.get hi) (λ h3 q=>hc h3 λ j ob n r=>q j ob n (k12 j ob n r)) (by omega) (λ y hy h3 q=>ht y (Zt _ hy) h3 λ j ob n r=>q j ob n (k12 j ob n r))
    λ y hy hpy h3 q=>he y (Zt _ hy) hpy h3 λ j ob n r=>q j ob n (k12 j ob n r)) λ v h3 ⟨ev,g,eg⟩=>⟨ev,?_⟩
   obtain⟨g2,rfl⟩:=x2
   refine⟨g2++g,?_⟩
   rw[eg,Zbj (h:=Vi hi)]
   simp[hp]
  | true =>
   dsimp only
   obtain⟨v,h3,e3,rfl,x3⟩:=(he x Zv hp h2 k12).eq
   rw[e3]
   dsimp only
   rw[x3.get (x2.get hi)]
   dsimp only
   rw[if_pos (by omega)]
   have k13:∀j ob,j≠i0->h1[j]?=Za ob->(h3.set i0 (.lst (acc++[f x])))[j]?=Za ob:=λ j ob n q=>by
    rw[ZZ (ZW n)]
    exact x3.get (x2.get q)
   refine WR.mono (Jup i0 (acc:=acc++[f x]) (by rw[ZX (Vi (x3.get (x2.get hi)))]) (λ h4 q=>hc h4 λ j ob n r=>q j ob n (k13 j ob n r)) (by simp;omega) (λ y hy h4 q=>ht y (Zt _ hy) h4 λ j ob n r=>q j ob n (k13 j ob n r))
    λ y hy hpy h4 q=>he y (Zt _ hy) hpy h4 λ j ob n r=>q j ob n (k13 j ob n r)) λ v h4 ⟨ev,g,eg⟩=>⟨ev,?_⟩
   obtain⟨g3,q3⟩:=x2.trans x3
   refine⟨g3++g,?_⟩
   rw[eg,q3,Zbj (h:=Vi hi),Zbj (h:=by rw[Zdc];exact Vi hi),List.set_set]
   simp[hp]
theorem Jie {it:I1}{t:T1}{e:E1}{js:List Nat}{σ:ISt}{xs:List IV}{chk:IH->Prop}{p:IV->Bool}{f:IV->IV}{h0:IH}(hit:WR (it σ h0) λ J h1=>J.xs=xs/\J.chk=chk/\h1=h)(hl:xs.length<sizeLine)
  (hc:∀h2:IH,(∀(j:Nat)(ob:IX),h[j]?=Za ob->h2[j]?=Za ob)->chk h2)
  (ht:∀x∈xs,∀h2:IH,(∀(j:Nat)(ob:IX),h[j]?=Za ob->h2[j]?=Za ob)->WR (t (Za x::js.map λ j=>(σ[j]?).join) h2) λ b h3=>b=p x/\Ex h2 h3)
  (he:∀x∈xs,p x=Ze->∀h2:IH,(∀(j:Nat)(ob:IX),h[j]?=Za ob->h2[j]?=Za ob)->WR (e (Za x::js.map λ j=>(σ[j]?).join) h2) λ v h3=>v=f x/\Ex h2 h3) :
  WR (Js it 1 js (gNm 0) t e σ h0) λ v h3=>v=.ref h.length/\∃g,h3=h++.lst ((xs.filter p).map f)::g:=by
 obtain⟨J,h1,e1,q1,q2,rfl⟩:=hit.eq
 unfold Js
 rw[e1]
 show WR (Qd J.chk (gNm 0) t e h1.length J.xs (Zb::js.map λ j=>(σ[j]?).join) (h1++[.lst []])) _
 rw[q1,q2]
 have lift:∀{h2:IH},(∀j ob,j≠h1.length->(h1++[IX.lst []])[j]?=Za ob->h2[j]?=Za ob)->∀j ob,h1[j]?=Za ob->h2[j]?=Za ob:=λ q j ob r=>q j ob (ZD (Vi r)) (grow r)
 refine WR.mono (Jup (p:=p) (f:=f) h1.length (acc:=[]) Jw (λ h2 q=>hc h2 (lift q)) (by simpa using hl) (λ x hx h2 q=>ht x hx h2 (lift q)) λ x hx hp h2 q=>he x hx hp h2 (lift q)) λ v h3 ⟨ev,g,eg⟩=>⟨ev,g,?_⟩
 rw[eg]
 simp
theorem filt {α:Type}(xs:List α):xs.filter (λ _=>Ze)=xs:=List.filter_eq_self.mpr (by simp)
theorem Qs {it:I1}{e:E1}{js:List Nat}{σ:ISt}{xs:List IV}{chk:IH->Prop}{f:IV->IV}{h0:IH}(hit:WR (it σ h0) λ J h1=>J.xs=xs/\J.chk=chk/\h1=h)(hl:xs.length<sizeLine)
  (hc:∀h2:IH,(∀(j:Nat)(ob:IX),h[j]?=Za ob->h2[j]?=Za ob)->chk h2)
  (he:∀x∈xs,∀h2:IH,(∀(j:Nat)(ob:IX),h[j]?=Za ob->h2[j]?=Za ob)->WR (e (Za x::js.map λ j=>(σ[j]?).join) h2) λ v h3=>v=f x/\Ex h2 h3) :
  WR (Js it 1 js (gNm 0) JJ e σ h0) λ v h3=>v=.ref h.length/\∃g,h3=h++.lst (xs.map f)::g:=by
 have:=Jie (p:=λ _=>Ze) (f:=f) (t:=JJ) (e:=e) (js:=js) (σ:=σ) (h:=h) hit hl hc (λ _ _ h2 _=>⟨rfl,.refl _⟩) λ x hx _ h2 q=>he x hx h2 q
 rwa [filt] at this
theorem Jr {o:IX}{g:IH}:(h++o::g)[h.length]?=Za o:=by simp
theorem Ex.cons (h:IH)(o:IX)(g:IH):Ex h (h++o::g):=⟨_,rfl⟩
end
section
variable {σ:ISt}{h h1:IH}{Q:IV->IH->Prop}{J:ItI->IH->Prop}
theorem Jig (e:E1):WR (J0 e σ h) J=WR (e σ h) λ v h1=>WR (Xb v h1) J:=by unfold J0;rw[Jq]
theorem Ye (f:List IV->IH->Res ItI)(a:A1):WR (iRg f a σ h) J=WR (a σ h) λ vs h1=>WR (f vs h1) J:=by unfold iRg;rw[Jq]
theorem Qk (i:Nat):WR (Xb (.ref i) h) J=∃xs,h[i]?=Za (.lst xs)/\J ⟨xs,λ h'=>h'[i]?=Za (.lst xs)⟩ h:=by
 show WR (itOf (.ref i) h) J=_
 unfold itOf
 cases e:h[i]? with
 | none=>simp[WR,e]
 | some o=>cases o<;>simp[WR,e]
theorem Jql (xs:List IV):WR (Xb (.rol xs) h) J=J ⟨xs,λ _=>True⟩ h:=rfl
theorem Jqn (xs:List IV):WR (Xb (.tup xs) h) J=J ⟨xs,λ _=>True⟩ h:=rfl
theorem Jqm (x:Str):WR (Xb (.str x) h) J=J ⟨QT x,λ _=>True⟩ h:=rfl
theorem Jwy (i:Nat):WR (QN [.ref i] h) J=∃xs,h[i]?=Za (.lst xs)/\J ⟨Qo 0 xs,λ h'=>h'[i]?=Za (.lst xs)⟩ h:=by
 show WR (QN [.ref i] h) J=_
 unfold QN
 cases e:h[i]? with
 | none=>simp[WR,e]
 | some o=>cases o<;>simp[WR,e]
theorem Yk (j:Int):WR (JD [.int j] h) J=((-(2^62)<=j/\j<2^62)/\J ⟨rngI 0 j,λ _=>True⟩ h):=by
 unfold JD;rw[QJ];exact propext ⟨λ ⟨a,b⟩=>(Ze9 _).elim (λ q=>⟨q,a q⟩) λ q=>(b q).elim,λ ⟨a,b⟩=>⟨λ _=>b,λ q=>absurd a q⟩⟩
theorem Jkr (i j:Int):WR (Vw [.int i,.int j] h) J=((-(2^62)<=i/\i<2^62/\ -(2^62)<=j/\j<2^62)/\J ⟨rngI i j,λ _=>True⟩ h):=by
 unfold Vw;rw[QJ];exact propext ⟨λ ⟨a,b⟩=>(Ze9 _).elim (λ q=>⟨q,a q⟩) λ q=>(b q).elim,λ ⟨a,b⟩=>⟨λ _=>b,λ q=>absurd a q⟩⟩
theorem Qa (i j:Int):(rngI i j).length=(j-i).toNat:=by simp[rngI]
theorem VF (i j:Int)(n:Nat)(hn:n<(rngI i j).length):(rngI i j)[n]=.int (i+n):=by simp[rngI]
theorem Jux (xs:List IV)(n:Nat)(hn:n<(Qo 0 xs).length):(Qo 0 xs)[n]=.tup [.int n,xs[n]'(by rwa [XG] at hn)]:=by
 have:=Jf5 xs 0 n
 rw[Zc hn,Zc (by rwa [XG] at hn)] at this
 simpa using this
theorem Jue (i:Nat)(lo hi:Option Int):WR (slI (.ref i) lo hi h) Q=∃xs,h[i]?=Za (.lst xs)/\Q (.ref h.length) (h++[.lst (cutI xs lo hi)]):=by
 unfold slI
 cases e:h[i]? with
 | none=>simp[WR,e]
 | some o=>cases o<;>simp[WR,e]
theorem Jl5 (xs:List IV)(lo hi:Option Int):WR (slI (.rol xs) lo hi h) Q=Q (.ref h.length) (h++[.lst (cutI xs lo hi)]):=rfl
theorem Jlo (n d:Nat):HT.sIx n d Zb=d:=HT.sIx_none n d
theorem Jrb {α:Type}(xs:List α)(n:Nat):cutI xs Zb (Za (n:Int))=xs.take n:=by
 unfold cutI
 rw[Jlo,HT.sIx_nat]
 simp
theorem Jra {α:Type}(xs:List α)(n:Nat):cutI xs (Za (n:Int)) Zb=xs.drop n:=by
 unfold cutI
 rw[Jlo,HT.sIx_nat]
 by_cases hn:n<=xs.length
 ·rw[Zdd hn]
  exact ZaW (by simp)
 ·rw[Nat.min_eq_right (by omega),ZdR,ZcD (by omega)]
  simp
theorem Juq {α:Type}(xs:List α)(n m:Nat):cutI xs (Za (n:Int)) (Za (m:Int))=(xs.take m).drop n:=by
 unfold cutI
 rw[HT.sIx_nat,HT.sIx_nat]
 refine ZbY λ i=>?_
 simp only[Zc2,List.getElem?_drop]
 by_cases h1:n+i<xs.length
 ·rw[Zdd (show n<=xs.length by omega)]
  by_cases h3:n+i<m
  ·rw[if_pos h3,if_pos (by omega)]
  ·rw[if_neg h3,if_neg (by omega)]
 ·rw[show xs[n+i]?=Zb from Zbc (by omega),show xs[min n xs.length+i]?=Zb from Zbc (by omega)]
  simp
variable {P:Pg}{m:Str}{n i:Nat}{o:E1}{a:A1}{xs:List IV}{c:Str}{fs:List (Str×IV)}
theorem Jkq {g:IV->List IV->IH->Res IV}(e:o σ h=.ok (.ref i) h1)(hl:h1[i]?=Za (.lst xs))(hg:bmOf "list" m n=Za g):WR (J1 P m n o a σ h) Q=WR (a σ h1) λ vs h2=>WR (g (.ref i) vs h2) Q:=by
 unfold J1
 rw[e]
 have hi:VA (.ref i) h1=Zj:=by simp[VA,hl]
 have ht:tyS (.ref i) h1="list":=by simp[tyS,hl]
 dsimp only
 rw[hi,ht,hg]
 dsimp only
 rw[if_neg Zp]
 unfold eBm
 rw[e,Jq,QW]
 have:tyOk "list" (.ref i) h1=Ze:=by simp[tyOk,hl]
 rw[if_pos this,Jq]
theorem Qt {f:List IV->IH->Res IV}{d:List IV}(e:o σ h=.ok (.ref i) h1)(hi:h1[i]?=Za (.ins c fs))(hf:fs.lookup m=Zb)(hd:Vf P m n c=Za (f,d)):WR (J1 P m n o a σ h) Q=WR (a σ h1) λ vs h2=>WR (f (.ref i::(vs++d)) h2) Q:=by
 unfold J1
 rw[e]
 have hi':VA (.ref i) h1=Ze:=by simp[VA,hi]
 dsimp only
 rw[hi',if_pos rfl]
 unfold Jrg
 rw[e,Jq,QW]
 dsimp only
 rw[hi]
 dsimp only
 rw[hd,hf]
 dsimp only
 rw[Jq]
theorem Jqg (y:IV):WR (V5 (.ref i) [y] h) Q=∃xs,h[i]?=Za (.lst xs)/\xs.length<sizeLine/\Q .non (h.set i (.lst (xs++[y]))):=by
 unfold V5
 cases e:h[i]? with
 | none=>simp[WR,e]
 | some ob =>
  cases ob with
  | lst xs=>by_cases hz:xs.length<sizeLine<;>simp[WR,e,hz]
  | _=>simp[WR,e]
theorem X3:bmOf "list" "append" 1=Za V5:=by kernel_rfl
theorem JB {f:Str}(e:h[i]?=Za (.ins c fs)):QC f (.ref i) h=fs.lookup f:=by simp[QC,e]
theorem Jl2:WR (Qp (.ref i) h) Q=∃xs,h[i]?=Za (.lst xs)/\Q (.ref h.length) (h++[.lst xs]):=by
 unfold Qp
 cases e:h[i]? with
 | none=>simp[WR,e]
 | some ob=>cases ob<;>simp[WR,e]
theorem Jih (xs:List IV):WR (Qp (.tup xs) h) Q=Q (.ref h.length) (h++[.lst xs]):=rfl
theorem Jqv:WR (VJ (.ref i) h) Q=∃xs,h[i]?=Za (.lst xs)/\Q (.tup xs) h:=by
 unfold VJ
 cases e:h[i]? with
 | none=>simp[WR,e]
 | some ob=>cases ob<;>simp[WR,e]
end
section
variable {σ:ISt}{h:IH}{Q:IV->IH->Prop}
theorem Yd (i j:Nat):WR (Jl (.ref i) (.ref j) h) Q=∃xs,h[i]?=Za (.lst xs)/\∃ys,h[j]?=Za (.lst ys)/\xs.length+ys.length<=sizeLine/\Q (.ref h.length) (h++[.lst (xs++ys)]):=by
 unfold Jl
 dsimp only
 split
 ·rename_i xs ys e e'
  rw[QJ]
  refine propext ⟨λ ⟨a,b⟩=>?_,λ ⟨xs',f,ys',f',l,q⟩=>?_⟩
  ·by_cases l:xs.length+ys.length<=sizeLine
   ·exact⟨xs,e,ys,e',l,a l⟩
   ·exact(b l).elim
  ·rw[e] at f
   rw[e'] at f'
   cases f
   cases f'
   exact⟨λ _=>q,λ n=>absurd l n⟩
 ·rename_i no
  exact propext ⟨Za2,λ ⟨xs,f,ys,f',_⟩=>(no xs ys f f').elim⟩
end
section
variable {σ:ISt}{h h1:IH}{Q:IV->IH->Prop}{P:Pg}{m:Str}{n i:Nat}{o:E1}{a:A1}{x:Str}
theorem Jxk:bmOf "list" "pop" 1=Za popI:=by kernel_rfl
theorem Jnu:bmOf "list" "extend" 1=Za VX:=by kernel_rfl
theorem Jlr:∀zs:List Str,Vk (zs.map IV.str)=Za zs
 | []=>rfl
 | z::zs=>by
  rw[Zs,Vk,Jlr zs];rfl
end
section
variable {σ:ISt}{h:IH}{Q:IV->IH->Prop}{i:Nat}
theorem Jks:WR (sumI (.ref i) h) Q=∃xs,h[i]?=Za (.lst xs)/\∃ns,JN xs=Za ns/\Q (.int ns.sum) h:=by
 unfold sumI
 cases e:h[i]? with
 | none=>simp[WR,e]
 | some ob =>
  cases ob with
  | lst xs=>cases q:JN xs<;>simp[WR,e,q]
  | _=>simp[WR,e]
theorem Vv:∀ns:List Int,JN (ns.map IV.int)=Za ns
 | []=>rfl
 | n::ns=>by
  rw[Zs,JN,Vv ns];rfl
theorem Jw8 (aa:A1)(md:E1):WR (XE aa md σ h) Q=WR (aa σ h) λ xs h1=>WR (md σ h1) λ d h2=>∃i,xs=[.ref i]/\∃ys,h2[i]?=Za (.lst ys)/\∃ns,JN ys=Za ns/\Q (maxD ns d) h2:=by
 unfold XE
 rw[Jq]
 congr 1;funext xs h1
 rw[Jq]
 congr 1;funext d h2
 match xs with
 | [.ref i] =>
  simp only[Zde,IV.ref.injEq,and_true,exists_eq_left']
  cases e:h2[i]? with
  | none=>simp[WR]
  | some ob =>
   cases ob with
   | lst ys=>cases q:JN ys<;>simp[WR,q]
   | _=>simp[WR]
 | []=>simp[WR]
 | [.non]=>simp[WR]
 | [.bl _]=>simp[WR]
 | [.int _]=>simp[WR]
 | [.str _]=>simp[WR]
 | [.tup _]=>simp[WR]
 | [.rol _]=>simp[WR]
 | x::_::_=>cases x<;>simp[WR]
theorem Jqo (aa:A1):WR (XD aa σ h) Q=WR (aa σ h) λ xs h1=>∃i,xs=[.ref i]/\∃ys,h1[i]?=Za (.lst ys)/\∃zs,Vk ys=Za zs/\zs.length+1<Zch/\Q (.int (cntD (Q2 zs) zs.length)) h1:=by
 unfold XD
 rw[Jq]
 congr 1;funext xs h1
 match xs with
 | [.ref i] =>
  simp only[Zde,IV.ref.injEq,and_true,exists_eq_left']
  cases e:h1[i]? with
  | none=>simp[WR]
  | some ob =>
   cases ob with
   | lst ys =>
    cases q:Vk ys with
    | none=>simp[WR,q]
    | some zs=>by_cases hz:zs.length+1<Zch<;>simp[WR,q,hz]
   | _=>simp[WR]
 | []=>simp[WR]
 | [.non]=>simp[WR]
 | [.bl _]=>simp[WR]
 | [.int _]=>simp[WR]
 | [.str _]=>simp[WR]
 | [.tup _]=>simp[WR]
 | [.rol _]=>simp[WR]
 | x::_::_=>cases x<;>simp[WR]
theorem Jix {zs:List Str}(nd:zs.Nodup):∀i,i<=zs.length->cntD (Q2 zs) i=i
 | 0,_=>rfl
 | i+1,hi=>by
  have ih:=Jix nd i (by omega)
  have hm:metB (Q2 zs) i (Q2 zs i)=Zj:=by
   unfold metB
   rw[List.any_eq_false]
   intro j hj
   have hj:=Zar.mp hj
   simp only[decide_eq_true_eq]
   intro e
   simp only[Q2,Z3,Zc (show j<zs.length by omega),Zc (show i<zs.length by omega),Zcj] at e
   have:=(ZdF nd).mp e
   omega
  unfold cntD
  rw[hm,ih]
  rfl
theorem Jt8 (f:Nat->Int):∀(n j:Nat),j<n->f j<=JM f n
 | 0,_,h=>by omega
 | 1,j,h=>by
  obtain rfl:j=0:=by omega
  exact Zb5 _
 | n+2,j,h=>by
  rw[Jc4 f (by omega)]
  by_cases hj:j=n+1
  ·subst hj;split<;>omega
  ·have:=Jt8 f (n+1) j (by omega)
   split<;>omega
theorem Jt9 (f:Nat->Int)(b:Int):∀(n:Nat),0<n->(∀j,j<n->f j<=b)->JM f n<=b
 | 0,h,_=>by omega
 | 1,_,q=>q 0 (by omega)
 | n+2,_,q=>by
  rw[Jc4 f (by omega)]
  have:=Jt9 f b (n+1) (by omega) λ j hj=>q j (by omega)
  have:=q (n+1) (by omega)
  split<;>omega
end
section
variable {h:IH}{Q:IV->IH->Prop}{i:Nat}
theorem Jz6 {k:Nat}{xs:List IV}{y:IV}(hi:h[i]?=Za (.lst xs))(hk:k<1000000)(hy:xs[k]?=Za y):WR (popI (.ref i) [.int k] h) Q=Q y (h.set i (.lst (xs.eraseIdx k))):=by
 unfold popI
 simp only[hi,ZcA,hy]
 rw[if_pos (by omega)]
 rfl
theorem Jqj {j:Nat}{xs ys:List IV}(hi:h[i]?=Za (.lst xs))(hj:h[j]?=Za (.lst ys))(hl:xs.length+ys.length<=sizeLine):WR (VX (.ref i) [.ref j] h) Q=Q .non (h.set i (.lst (xs++ys))):=by
 unfold VX
 simp only[hi,hj]
 rw[if_pos hl]
 rfl
theorem Jw5 {aa:A1}{σ:ISt}:WR (eLR aa σ h) Q=WR (aa σ h) λ xs h1=>∃j:Int,xs=[.int j]/\(0<=j/\j<=1000)/\Q (.ref h1.length) (h1++[.lst (rngI 0 j)]):=by
 unfold eLR
 rw[Jq]
 congr
 funext xs h1
 split
 ·rename_i j
  by_cases hq:0<=j/\j<=1000
  ·simp[hq,WR]
  ·simp only[if_neg hq]
   refine propext ⟨λ z=>(show False from z).elim,?_⟩
   rintro⟨j',e,z,_⟩
   cases e
   exact absurd z hq
 ·rename_i hne
  refine propext ⟨λ z=>(show False from z).elim,?_⟩
  rintro⟨j',e,_⟩
  exact absurd e (hne j')
end
def KpB (i0:Nat)(h h':IH):Prop:=∀(j:Nat)(ob:IX),j≠i0->h[j]?=Za ob->h'[j]?=Za ob
def Kp (h h':IH):Prop:=∀(j:Nat)(ob:IX),h[j]?=Za ob->h'[j]?=Za ob
theorem KpB.trans {i0:Nat}{a b c:IH}(p:KpB i0 a b)(q:KpB i0 b c):KpB i0 a c:=λ j ob n e=>q j ob n (p j ob n e)
theorem Kp.trans {a b c:IH}(p:Kp a b)(q:Kp b c):Kp a c:=λ j ob e=>q j ob (p j ob e)
theorem Kp.refl (a:IH):Kp a a:=λ _ _ e=>e
theorem Ex.kp {a b:IH}(x:Ex a b):Kp a b:=λ _ _ e=>x.get e
section
variable {h:IH}
end
def Juh (ts:List Zi)(H:Hp):Prop:=∀b,H b=Zb∨(∃o xs,H b=Za (.frz o (.lst xs)))∨(b∈ts/\H b=Za (.tbl #[]))
theorem Jo4 {P:ZA}{w:ZM}{K:W.Frag}{mg mb:Str->Option Zd}{k:Nat}{fa a:Zi}{fd:Zam}{x:Str}{sp:Sp}{s₁:Zk}{vs:List Zd}{ns:List Int}{ts:List Zi}
  (KX:K.In s₁.heap)(hns:s₁.heap.Ns Zm mg)(hb:s₁.heap.Ns Zcz mb)(hbb:∀x:Str,x≠"__name__"->mb x=Zbp x)(hlim:s₁.heap.NoLimit)(hg:s₁.gens=#[])
  (ha:s₁.heap.get? a=Za { cls:=.type "list",data:=.seq vs.toArray })(hi:ZcU vs ns)(hl:ns.length<=sizeLine)(hr:Room k Zer)
  (hT:∀p∈ts,s₁.heap.get? p=Za (W.tabObj #[])/\isCodeTable s₁.heap p/\K.lookup p=Zb)
  (hbm:∃bm ob,mg "__builtins__"=Za (.ref bm)/\bm≠Zcz/\s₁.heap.get? bm=Za ob/\ob.cls=.type "module"/\ob.dict=Za Zcz/\ob.data=.plain)
  (F:∀base:ZT,K.In base->base.Ns Zm mg->Q7 mg base->FnOk P w K mg base (CXI P w) k fa fd [x] sp)(hbind:∀(s:Zk)(u:Zd),Zcw s fd ⟨[u],[]⟩ [(x,u)])
  (hsp:∀H:Hp,Juh ts H->SqL K H a (ns.map V.int)->(∀p∈ts,H p=Za (.tbl #[]))->sp [.ref a] H (λ v _=>v=.bl Ze) λ _ _ _=>False) :
  ZbW (Z1 P w) Zer (.call (.ref fa) ⟨[.ref a],[]⟩) (λ r s'=>r=.ok (.ret (.bool Ze))/\OldK s₁.heap s'.heap/\s'.os=s₁.os/\Zdh s'.gens) s₁:=by
 have rv:=L2.Xp hi
 have lenV:=hi.length
 have nta:a∉ts:=λ z=>by
  have e:=(hT a z).1
  rw[ha] at e
  have e':=Zaj e
  injection e' with h1
  cases h1
 have core:∀H:Hp,Juh ts H->SqL K H a (ns.map V.int)->HOk P w H s₁.heap->(∀b,H b≠Zb->b=a∨b∈ts)->(H a≠Zb->K.lookup a=Zb)->(∀p∈ts,H p=Za (.tbl #[])) ->
   ZbW (Z1 P w) Zer (.call (.ref fa) ⟨[.ref a],[]⟩) (λ r s'=>r=.ok (.ret (.bool Ze))/\OldK s₁.heap s'.heap/\s'.os=s₁.os/\Zdh s'.gens) s₁:=by
  intro H hO hS hok hA hK hTt
  have base_of:∀{b:Zi}{o:Obj},s₁.heap.get? b=Za o->H b=Zb->(hidT s₁.heap H).get? b=Za o:=λ e n=>Jrs e n
  have noA:∀{b:Zi}{o:Obj},s₁.heap.get? b=Za o->(∀vs n,o.data≠.seq vs n)->(∀vs,o.data≠.fields vs)->H b=Zb:=λ {b o} e d1 d2=>by
   cases q:H b with
   | none=>rfl
   | some u =>
    rcases hA b (by rw[q];simp) with e'|e'
    ·subst e'
     rw[ha] at e;cases e
     exact absurd rfl (d1 _ _)
    ·rw[(hT b e').1] at e;cases e
     exact absurd rfl (d2 _)
  have nsK:∀{b:Zi}{m:Str->Option Zd},s₁.heap.Ns b m->(hidT s₁.heap H).Ns b m:=λ {b m} ⟨o,es,ep,e,d,r⟩=>⟨o,es,ep,base_of e (noA e (λ _ _ z=>by rw[d] at z;cases z) λ _ z=>by rw[d] at z;cases z),d,r⟩
  have hKb:K.In (hidT s₁.heap H):=λ b o e=>base_of (KX b o e) (by
   cases q:H b with
   | none=>rfl
   | some u =>
    rcases hA b (by rw[q];simp) with e'|e'
    ·subst e'
     rw[hK (by rw[q];simp)] at e;cases e
    ·rw[(hT b e').2.2] at e;cases e)
  have hM:Mod K mg (hidT s₁.heap H):=⟨hKb,nsK hns,⟨mb,nsK hb,hbb⟩,let ⟨mc,h1,h2⟩:=hlim;⟨mc,nsK h1,h2⟩⟩
  have hB:Q7 mg (hidT s₁.heap H):=by
   obtain⟨bm,ob,b1,b2,b3,b4,b5,b6⟩:=hbm
   refine⟨bm,ob,b1,b2,λ z=>?_,base_of b3 (noA b3 (λ _ _ z=>by rw[b6] at z;cases z) λ _ z=>by rw[b6] at z;cases z),b4,b5,b6⟩
   obtain⟨o,es,ep,e,d,_⟩:=hns
   rw[<- z,b3] at e
   cases e
   rw[b6] at d
   cases d
  have e0:Env0 P w K mg (hidT s₁.heap H) Zer [] s₁ H:=⟨rfl,hM,λ b o e=>Jv1 e,Zdi (Jor _ _),trivial,λ b hb=>absurd (show b∈([]:List Zi) from hb) (by simp),hok,.of_eq hg⟩
  refine ZbN ((F _ hKb (nsK hns) hB).run Zer [] s₁ H ⟨[.ref a],[]⟩ [.ref a] [.ref a] _ _ hr e0 (hbind s₁ (.ref a)) (.cons rfl .nil) (hsp H hO hS hTt)) λ r s' h=>?_
  cases r with
  | error e=>exact h.elim λ _ z=>z.2.2.2.2.elim
  | ok fl =>
   cases fl with
   | next=>exact Za2 h
   | brk=>exact Za2 h
   | cont=>exact Za2 h
   | ret u =>
    obtain⟨v,H',os,bare,un,hok',r',q⟩:=h
    have q':v=.bl Ze:=q
    subst q'
    obtain rfl:u=Zcx Ze:=r'
    have main:∀b o,s₁.heap.get? b=Za o->asItWas s₁.heap s'.heap b o/\∃o',s'.heap.get? b=Za o':=λ b o e=>by
     rcases hO b with z|⟨ob,xs,z⟩|⟨hb,z⟩
     ·have:=un.keep b o e z (by intro z;exact absurd (show b∈([]:List Zi) from z) (by simp)) (by simp)
      exact⟨.inl this,_,this⟩
     ·have z2:=un.frzs b ob _ z
      obtain⟨e1,_⟩:=hok b _ z
      obtain⟨e2,_⟩:=hok' b _ z2
      rw[e] at e1;cases e1
      exact⟨.inl e2,_,e2⟩
     ·obtain⟨more,z2⟩:=un.tbls b _ z
      have e2:=hok' b _ z2
      have e1:=(hT b hb).1
      rw[e] at e1
      cases e1
      exact⟨.inr (.inl ⟨(hT b hb).2.1,rfl,#[],more,rfl,e2⟩),_,e2⟩
    exact⟨rfl,⟨λ b o e=>(main b o e).1,λ b o e=>(main b o e).2⟩,os,bare⟩
 cases hk:K.lookup a with
 | some o =>
  have e:=KX a o hk
  rw[ha] at e
  cases e
  refine core (λ b=>if b∈ts then Za (.tbl #[]) else Zb) (λ b=>?_) (.inr ⟨_,vs.toArray,_,hk,rfl,rfl,rfl,by rw[Zz,lenV];exact hl,by simpa using rv⟩) (λ b u z=>?_) (λ b z=>?_) (λ z=>absurd (if_neg nta) z) λ p hp=>if_pos hp
  ·by_cases hb:b∈ts
   ·exact .inr (.inr ⟨hb,if_pos hb⟩)
   ·exact .inl (if_neg hb)
  ·by_cases hb:b∈ts
   ·have z':=(if_pos hb).symm.trans z
    cases z'
    exact(hT b hb).1
   ·have z':=(if_neg hb).symm.trans z
    cases z'
  ·by_cases hb:b∈ts
   ·exact .inr hb
   ·exact absurd (if_neg hb) z
 | none =>
  refine core (λ b=>if b=a then Za (.frz { cls:=.type "list",data:=.seq vs.toArray } (.lst (ns.map V.int))) else if b∈ts then Za (.tbl #[]) else Zb) (λ b=>?_) (.inl (.inr ⟨{ cls:=.type "list",data:=.seq vs.toArray },if_pos rfl⟩)) (λ b u z=>?_) (λ b z=>?_) (λ _=>hk) λ p hp=>?_
  ·by_cases hb:b=a
   ·exact .inr (.inl ⟨_,_,if_pos hb⟩)
   ·by_cases hc:b∈ts
    ·exact .inr (.inr ⟨hc,(if_neg hb).trans (if_pos hc)⟩)
    ·exact .inl ((if_neg hb).trans (if_neg hc))
  ·by_cases hb:b=a
   ·have z':=(if_pos hb).symm.trans z
    cases z'
    subst hb
    exact⟨ha,by rw[Zo];exact hl,vs,_,rv,ha⟩
   ·by_cases hc:b∈ts
    ·have z':=((if_neg hb).trans (if_pos hc)).symm.trans z
     cases z'
     exact(hT b hc).1
    ·have z':=((if_neg hb).trans (if_neg hc)).symm.trans z
     cases z'
  ·by_cases hb:b=a
   ·exact .inl hb
   ·by_cases hc:b∈ts
    ·exact .inr hc
    ·exact absurd ((if_neg hb).trans (if_neg hc)) z
  ·have hb:p≠a:=λ z=>nta (z▸hp)
   exact(if_neg hb).trans (if_pos hp)
def Jq8 (o:Obj)(q:Str):Bool:=match o with
 | ⟨_,_,.fields vs,_⟩=>(match vs.toList with|_::.str n _::_=>n==q|_=>Zj)
 | _=>Zj
def QH (K:W.Frag)(q:Str)(p:Zi):Bool:=(K.lookup p).isNone&&K.all (λ e=>!(Jq8 e.2 q)||W.codeHdIn K e.1 p)&&K.any (λ e=>Jq8 e.2 q&&W.codeHdIn K e.1 p)
def QM (K:W.Frag):List Str->List Zi->Bool
 | [],[]=>Ze
 | q::qs,p::ps=>QH K q p&&!ps.contains p&&QM K qs ps
 | _,_=>Zj
theorem Jmx {K:W.Frag}{c:Zi}{o:Obj}(h:K.lookup c=Za o):(c,o)∈K:=by
 induction K with
 | nil=>cases h
 | cons p K ih =>
  obtain⟨b,o'⟩:=p
  rw[ZU] at h
  split at h
  ·rename_i e
   cases h
   rw[beq_iff_eq.mp e]
   exact Zv
  ·exact Zt _ (ih h)
theorem QH.code {K:W.Frag}{q:Str}{p:Zi}(h:QH K q p=Ze):∀cdv,W.codeIn K cdv q=Ze->∃c,cdv=.ref c/\W.codeHdIn K c p=Ze:=by
 simp only[QH,Zl,ZcR,Zaq,ZaH] at h
 intro cdv e
 unfold W.codeIn at e
 split at e
 ·rename_i c
  refine⟨c,rfl,?_⟩
  cases hk:K.lookup c with
  | none=>rw[hk] at e;cases e
  | some o =>
   rw[hk] at e
   rcases h.1.2 _ (Jmx hk) with z|z
   ·exfalso
    have e':Jq8 o q=Ze:=by
     obtain⟨oc,od,dt,sl⟩:=o
     cases dt<;>first|exact e|cases e
    have z':Jq8 o q=Zj:=z
    rw[e'] at z'
    cases z'
   ·exact z
 ·cases e
theorem QH.some {K:W.Frag}{q:Str}{p:Zi}(h:QH K q p=Ze):K.lookup p=Zb/\∃c,W.codeHdIn K c p=Ze:=by
 simp only[QH,Zl,ZbG,Option.isNone_iff_eq_none] at h
 obtain⟨⟨h1,_⟩,e,_,h2⟩:=h
 exact⟨h1,e.1,h2.2⟩
theorem QM.mem {K:W.Frag}:∀{qs:List Str}{ts:List Zi},QM K qs ts=Ze->ts.Nodup/\qs.length=ts.length/\(∀(i:Nat)(q:Str),qs[i]?=Za q->∃p,ts[i]?=Za p/\QH K q p=Ze)/\∀p∈ts,∃q,QH K q p=Ze
 | [],[],_=>⟨.nil,rfl,λ i q e=>by simp at e,λ p hp=>by cases hp⟩
 | q::qs,p::ps,h=>by
  simp only[QM,Zl,ZaH,List.contains_eq_mem,decide_eq_false_iff_not] at h
  obtain⟨⟨h1,h2⟩,h3⟩:=h
  obtain⟨a,b,c,d⟩:=QM.mem h3
  refine⟨ZaL.mpr ⟨h2,a⟩,by simp[b],λ i r e=>?_,λ r hr=>?_⟩
  ·cases i with
   | zero =>
    have e':Za q=Za r:=e
    cases e'
    exact⟨p,rfl,h1⟩
   | succ i=>exact c i r e
  ·rcases ZB.mp hr with rfl|hr
   ·exact⟨q,h1⟩
   ·exact d r hr
 | [],_::_,h=>by cases h
 | _::_,[],h=>by cases h
theorem Jmu {K:W.Frag}{x:Str}{f:List IV->IH->Res IV}{H:Hp}{a:Zi}{ns:List Int}{qs:List Str}{ts:List Zi}(hO:Juh ts H)(hS:SqL K H a (ns.map V.int))(hT:∀p∈ts,H p=Za (.tbl #[]))(hc:QM K qs ts=Ze)
  (hf:∃h',f [.rol (ns.map IV.int)] (qs.map IX.tab)=.ok (.bl Ze) h'):Xm K x f [.ref a] H (λ v _=>v=.bl Ze) λ _ _ _=>False:=by
 intro ce
 obtain⟨h',hf⟩:=hf
 have sr:SqR K H a (ns.map V.int):=by
  rcases hS with(h|⟨o,h⟩)|h
  ·rcases hO a with z|⟨ob,xs,z⟩|⟨_,z⟩
   ·rw[z] at h;cases h
   ·rw[z] at h;cases h
   ·rw[z] at h;cases h
  ·exact .inl ⟨o,h⟩
  ·exact .inr h
 obtain⟨nd,le,at_,_⟩:=QM.mem hc
 refine⟨rfl,ts,qs.map IX.tab,[.rol (ns.map IV.int)],⟨by simp[le],nd,λ i o e=>?_⟩,⟨.ref a,[],rfl,⟨a,_,rfl,sr,RVs.ints ns⟩,rfl⟩,?_⟩
 ·rw[Z0] at e
  cases eq:qs[i]? with
  | none=>rw[eq] at e;cases e
  | some q =>
   rw[eq] at e
   cases e
   obtain⟨p,ep,hp⟩:=at_ i q eq
   exact⟨p,ep,QH.code hp,#[],hT p (Zcb ep),trivial,λ pos cv z=>by cases z⟩
 ·rw[hf]
  intro v H' ι' _ _ q
  exact q
theorem Js7 {l:W.OpenLaw}{n k:Nat}{q:ZA}{loose:List Str}{XP:(Str->Option Zd)->ZT->Prop}{YP:ZM->ZT->Prop}{d:DefRec}{K:Params->W.Frag}{f:List IV->IH->Res IV}{x:Str}{qs:List Str}{ts:List Zi}
  (hn:l.most=Za n)(hn2:n<=sizeLine)(hdf:d.params.defaults=[])(hr:Room k Zer)
  (hY:∀(w:ZM)(h:ZT),YP w h->(K w.params).In h/\∀p∈ts,h.get? p=Za (W.tabObj #[]))(hc:∀w:ZM,QM (K w.params) qs ts=Ze)
  (F:∀(w:ZM)(mg:Str->Option Zd)(fa:Zi)(h:ZT),(K w.params).In h->h.Ns Zm mg->mg d.name=Za (.ref fa) ->
   ∃fd:Zam,(∀(s:Zk)(u:Zd),Zcw s fd ⟨[u],[]⟩ [(x,u)]) /\
    ∀base:ZT,(K w.params).In base->base.Ns Zm mg->Q7 mg base->FnOk l.prog w (K w.params) mg base (CXI l.prog w) k fa fd [x] (Xm (K w.params) x f))
  (hf:∀ns:List Int,ns.length<=n->∃h',f [.rol (ns.map IV.int)] (qs.map IX.tab)=.ok (.bl Ze) h') :
  W.WalkO q loose XP YP l.row.toRowW d [] (λ f vs=>PySem.call f vs):=by
 refine Att.attach_call hn hdf λ w s₀ s₁ mg mb fa o pm cd doc a vs ns G Y ho hd hcd hmg hobj hints hlen hg=>?_
 obtain⟨KX,hT⟩:=hY w _ Y
 obtain⟨fd,hb,hF⟩:=F w mg fa _ KX G.T.g hmg
 refine Jo4 KX G.T.g G.T.b G.T.builtins G.T.nolimit hg hobj hints (Zah hlen hn2) hr (λ p hp=>?_) G.T.bmain hF hb λ H hO hS hTt=>Jmu hO hS hTt (hc w) (hf ns hlen)
 obtain⟨q,hq⟩:=(QM.mem (hc w)).2.2.2 p hp
 obtain⟨h1,c,h2⟩:=QH.some hq
 exact⟨hT p hp,((W.codeHd_of_K KX h2).tab (hT p hp)).isCodeTable,h1⟩
def Qm (kf:IV->Int):IV->List IV->IV
 | b,[]=>b
 | b,y::r=>if kf y>kf b then Qm kf y r else Qm kf b r
theorem Jeo (kf:IV->Int):∀(r:List IV)(b:IV),Qm kf b r=b∨Qm kf b r∈r
 | [],b=>.inl rfl
 | y::r,b=>by
  unfold Qm
  split
  ·rcases Jeo kf r y with e|e
   ·rw[e];exact .inr Zv
   ·exact .inr (Zt _ e)
  ·rcases Jeo kf r b with e|e
   ·exact .inl e
   ·exact .inr (Zt _ e)
theorem Jf1 (kf:IV->Int):∀(r:List IV)(b:IV),kf b<=kf (Qm kf b r)/\∀y∈r,kf y<=kf (Qm kf b r)
 | [],b=>⟨Zb5 _,λ y hy=>by cases hy⟩
 | y::r,b=>by
  unfold Qm
  split
  ·rename_i h
   obtain⟨h1,h2⟩:=Jf1 kf r y
   exact⟨by omega,λ z hz=>by
    rcases ZB.mp hz with rfl|hz
    ·exact h1
    ·exact h2 z hz⟩
  ·rename_i h
   obtain⟨h1,h2⟩:=Jf1 kf r b
   exact⟨h1,λ z hz=>by
    rcases ZB.mp hz with rfl|hz
    ·omega
    ·exact h2 z hz⟩
theorem Jgo {mk:IV->IH->Res IV}{kf:IV->Int}{i:Nat}{ys:List IV}{h0:IH}(hi:h0[i]?=Za (.lst ys))(hm:∀y∈ys,∀h,Ex h0 h->WR (mk y h) λ v h'=>v=.int (kf y)/\Ex h h') :
  ∀(r:Nat)(b:IV)(h:IH),Ex h0 h->r<=ys.length->WR (QO gtZ mk i ys.length r b (.int (kf b)) h) λ v h'=>v=Qm kf b (ys.drop (ys.length-r))/\Ex h h'
 | 0,b,h,x,_=>by
  unfold QO
  rw[x.get hi]
  dsimp only
  rw[if_pos rfl]
  refine⟨?_,.refl _⟩
  rw[Nat.sub_zero,ZdR]
  rfl
 | r+1,b,h,x,hr=>by
  unfold QO
  rw[x.get hi]
  dsimp only
  rw[if_pos rfl]
  have hlt:ys.length-(r+1)<ys.length:=by omega
  rw[Zc hlt]
  dsimp only
  have hd:ys.drop (ys.length-(r+1))=ys[ys.length-(r+1)]::ys.drop (ys.length-r):=by
   rw[Zaw hlt,show ys.length-(r+1)+1=ys.length-r by omega]
  obtain⟨v,h2,e,rfl,x2⟩:=(hm _ (ZR hlt) h x).eq
  rw[e,hd]
  show WR (match gtZ (.int (kf ys[ys.length-(r+1)])) (.int (kf b)) with|some Ze=>_|some Zj=>_|none=>_) _
  unfold gtZ
  dsimp only
  unfold Qm
  by_cases hb:kf ys[ys.length-(r+1)]>kf b
  ·rw[decide_eq_true hb,if_pos hb]
   exact WR.mono (Jgo hi hm r _ h2 (x.trans x2) (by omega)) λ v h' ⟨a,c⟩=>⟨a,x2.trans c⟩
  ·rw[decide_eq_false hb,if_neg hb]
   exact WR.mono (Jgo hi hm r _ h2 (x.trans x2) (by omega)) λ v h' ⟨a,c⟩=>⟨a,x2.trans c⟩
def X2 (kf:IV->Int)(d:IV):List IV->IV
 | []=>d
 | y::r=>Qm kf y r
theorem Js9 {mk:IV->IH->Res IV}{kf:IV->Int}{i:Nat}{ys:List IV}{h:IH}{d:IV}(hi:h[i]?=Za (.lst ys))(hm:∀y∈ys,∀h',Ex h h'->WR (mk y h') λ v h2=>v=.int (kf y)/\Ex h' h2) :
  WR (Xc gtZ mk i d h) λ v h'=>v=X2 kf d ys/\Ex h h':=by
 unfold Xc
 rw[hi]
 dsimp only
 cases ys with
 | nil=>exact⟨rfl,.refl _⟩
 | cons y r =>
  obtain⟨v,h2,e,rfl,x2⟩:=(hm y Zv h (.refl _)).eq
  show WR ((mk y h).nx.bind λ k h'=>QO gtZ mk i (y::r).length ((y::r).length-1) y k h') _
  rw[e]
  have:=Jgo (kf:=kf) (x2.get hi) (λ z hz h' x=>hm z hz h' (x2.trans x)) ((y::r).length-1) y h2 (.refl _) (by simp)
  refine WR.mono this λ v h' ⟨a,c⟩=>⟨?_,x2.trans c⟩
  rw[a]
  simp[X2]
section
variable {α β:Type}{σ:ISt}{h:IH}
def WE (r:Res α)(Q:α->IH->Prop)(Z:Nat->IH->Prop):Prop:=match r with
 | .ok a h=>Q a h
 | .exc n h=>Z n h
 | .stuck=>False
def WSE (r:SRes)(N:ISt->IH->Prop)(R:IV->IH->Prop)(Z:Nat->ISt->IH->Prop):Prop:=match r with
 | .next σ h=>N σ h
 | .ret v h=>R v h
 | .exc n σ h=>Z n σ h
 | _=>False
variable {Q:α->IH->Prop}{Z:Nat->IH->Prop}{N:ISt->IH->Prop}{R:IV->IH->Prop}{Y:Nat->ISt->IH->Prop}
theorem J1t (a:α):WE (.ok a h) Q Z=Q a h:=rfl
theorem Jwt {Q:β->IH->Prop}(r:Res α)(f:α->IH->Res β):WE (r.bind f) Q Z=WE r (λ a h=>WE (f a h) Q Z) Z:=by cases r<;>rfl
theorem WE.of {r:Res α}(w:WR r Q):WE r Q Z:=by
 cases r with
 | ok a h=>exact w
 | exc n h=>exact Zf w
 | stuck=>exact Zf w
theorem WE.mono {r:Res α}{Q':α->IH->Prop}{Z':Nat->IH->Prop}(w:WE r Q Z)(hq:∀a h,Q a h->Q' a h)(hz:∀n h,Z n h->Z' n h):WE r Q' Z':=by
 cases r with
 | ok a h=>exact hq _ _ w
 | exc n h=>exact hz _ _ w
 | stuck=>exact w
theorem WE.wr {r:Res α}(w:WE r Q λ _ _=>False):WR r Q:=by
 cases r with
 | ok a h=>exact w
 | exc n h=>exact w
 | stuck=>exact w
theorem WSE.of {r:SRes}(w:WS r N R):WSE r N R Y:=by
 cases r with
 | next σ h=>exact w
 | ret v h=>exact w
 | _=>exact Zf w
theorem Jma (r:Res α)(k:α->IH->SRes):WSE (rS σ r k) N R Y=WE r (λ a h=>WSE (k a h) N R Y) λ n h=>Y n σ h:=by cases r<;>rfl
theorem VP (a b:S1):WSE (Je a b σ h) N R Y=WSE (a σ h) (λ σ1 h1=>WSE (b σ1 h1) N R Y) R Y:=by
 unfold Je;cases a σ h<;>rfl
theorem Jxe:WSE (Jv σ h) N R Y=N σ h:=rfl
theorem Jky (i:Nat)(e:E1):WSE (Ji i e σ h) N R Y=WE (e σ h) (λ v h1=>N (σ.set i (Za v)) h1) λ n h=>Y n σ h:=by unfold Ji;rw[Jma];rfl
theorem Jte (e:E1):WSE (JT e σ h) N R Y=WE (e σ h) (λ _ h1=>N σ h1) λ n h=>Y n σ h:=by unfold JT;rw[Jma];rfl
theorem Juf (t:T1)(a b:S1):WSE (sIf t a b σ h) N R Y=WE (t σ h) (λ c h1=>(c=Ze->WSE (a σ h1) N R Y)/\(c=Zj->WSE (b σ h1) N R Y)) λ n h=>Y n σ h:=by
 unfold sIf;rw[Jma];congr 1;funext c h1;cases c<;>simp
theorem Jqc {Q:IV->IH->Prop}(f:List IV->IH->Res IV)(d:List IV)(a:A1):WE (Jn f d a σ h) Q Z=WE (a σ h) (λ vs h1=>WE (f (vs++d) h1) Q Z) Z:=by unfold Jn;rw[Jwt]
theorem Jz3 {Q:IV->IH->Prop}{r:SRes}(w:WSE r (λ _ h=>Q .non h) Q λ n _ h=>(∃c fs,h[n]?=Za (.exc c fs))/\Z n h):WE r.fin Q Z:=by
 cases r with
 | next σ h=>exact w
 | ret v h=>exact w
 | exc n σ h =>
  obtain⟨⟨c,fs,e⟩,z⟩:=w
  rw[Juz e]
  exact z
 | _=>exact Zf w
theorem Jz8 (b:S1)(hs:List HdI)(w:WSE (b σ h) N R λ n σ1 h1=>∃c fs,h1[n]?=Za (.exc c fs)/\WS (Vs hs c n σ1 h1) N R):WS (sTry b hs σ h) N R:=by
 unfold sTry
 cases e:b σ h with
 | next σ1 h1=>rw[e] at w;exact w
 | ret v h1=>rw[e] at w;exact w
 | exc n σ1 h1 =>
  rw[e] at w
  obtain⟨c,fs,e1,w⟩:=w
  dsimp only
  rw[e1]
  exact w
 | _=>rw[e] at w;exact Zf w
theorem Jxd (sl:Option Nat)(r:SRes):WS (r.drop sl) N R=WS r (λ σ h=>N (VE sl Zb σ) h) R:=by
 unfold SRes.drop;cases r<;>rfl
theorem J1x {g:Str->Option Bool}{sl:Option Nat}{m:S1}{r:List HdI}{c:Str}{n:Nat}(e:g c=Za Ze):WS (Vs ((g,sl,m)::r) c n σ h) N R=WS (m (VE sl (Za (.ref n)) σ) h) (λ σ h=>N (VE sl Zb σ) h) R:=by
 unfold Vs;dsimp only;rw[e];dsimp only;rw[Jxd]
end
section
variable {mk:IV->IH->Res IV}{kf:IV->List Int}{i n:Nat}{ys:List IV}
end
end L4
namespace LW
theorem Kaz {α:Sort _}{p:α->Prop}{a':α}:(∃a,a'=a/\p a)↔p a':=exists_eq_left'
theorem Kbz {α:Sort _}{p:α->Prop}{a':α}:(∃a,a=a'/\p a)↔p a':=exists_eq_left
theorem Kcz (a b:Bool):(L3.IV.bl a=L3.IV.bl b)=(a=b):=L3.IV.bl.injEq a b
theorem Kdz (a b:Int):(L3.IV.int a=L3.IV.int b)=(a=b):=L3.IV.int.injEq a b
theorem Kez (a b:Nat):(L3.IV.ref a=L3.IV.ref b)=(a=b):=L3.IV.ref.injEq a b
theorem Kfz (a b:PySem.Str):(L3.IV.str a=L3.IV.str b)=(a=b):=L3.IV.str.injEq a b
theorem Kgz (a b:List L3.IV):(L3.IV.tup a=L3.IV.tup b)=(a=b):=L3.IV.tup.injEq a b
theorem Khz (a b:List L3.IV):(L3.IX.lst a=L3.IX.lst b)=(a=b):=L3.IX.lst.injEq a b
theorem Kiz {α:Type _}(a b:α):(Za a=Za b)=(a=b):=ZaI a b
theorem Kjz:(!true)=Zj:=Zcu
theorem Kkz:(!false)=Ze:=Zcd
theorem Klz:(Ze=Zj)=False:=Zbx
theorem Kmz:(Zj=Ze)=False:=Zag
theorem Knz {α β:Type _}(a:α)(f:α->Option β):(Za a).bind f=f a:=Zbw a f
theorem Koz (p:Prop):(True->p)=p:=true_implies p
theorem Kpz (p:Prop):(False->p)=True:=false_implies p
theorem Kqz (α:Sort _):(α->True)=True:=implies_true α
theorem Krz {α:Type _}{a b:α}{l:List α}{n:Nat}:(a::l).set (n+1) b=a::l.set n b:=Zc3
theorem Ksz {α:Type _}{a b:α}{l:List α}:(a::l).set 0 b=b::l:=ZbO
theorem Ktz {α:Type _}{a:α}{l m:List α}:(a::l)++m=a::(l++m):=ZH
theorem Kuz {α:Type _}(l:List α):[]++l=l:=Za9 l
theorem Kvz {α:Type _}(l:List α):l++[]=l:=ZaK l
end LW
namespace LW
open PySem L2 L3 L4
noncomputable def top (i:Nat):Zbv:=PySem.Challenge.pw_dutyproof_k72_stuck.main.body.getD i (.Pass ⟨0,0,0,0⟩)
def Jai:D4:=⟨Vu (top 6) 0,"NoRanks.__init__",["self","stuck"],["self","stuck"],[]⟩
def Jc2:D4:=⟨top 8,"is_whole",["thing"],["thing"],[]⟩
def Jaf:D4:=⟨top 9,"is_whole_from",["thing","least"],["thing","least"],[]⟩
def Jca:D4:=⟨top 10,"rounds_up",["top","bottom"],["top","bottom"],[]⟩
def Jd7:D4:=⟨top 17,"is_name",["thing"],["thing"],[]⟩
def Jd6:D4:=⟨top 18,"is_hold",["hold","length"],["hold","length"],[]⟩
def Jb7:D4:=⟨top 19,"lie_apart",["one","other"],["one","other"],[]⟩
def Jd8:D4:=⟨top 20,"lies_in",["one","other"],["one","other"],[]⟩
def Ja3:D4:=⟨top 21,"go_together",["one","other"],["one","other"],[]⟩
def Jab:D4:=⟨top 22,"all_go_together",["holds"],["holds","place","hold"],[]⟩
def Jb8:D4:=⟨top 23,"own_holds",["holds","length"],["holds","length"],[]⟩
def Jd9:D4:=⟨top 24,"own_due",["due","gap"],["due","gap"],[]⟩
def Qe:D4:=⟨Vu (top 25) 0,"Work.__init__",["self","name","gap","length","due","late","holds"],["self","name","gap","length","due","late","holds"],[.non,.int 0,.non]⟩
def Jb5:D4:=⟨Vu (top 25) 1,"Work.held",["self"],["self"],[]⟩
def Jc0:D4:=⟨top 27,"ceilings",["duty"],["duty","found","at","hold"],[]⟩
def Jbj:D4:=⟨top 28,"turns_held",["hold"],["hold"],[]⟩
def Jaj:D4:=⟨top 29,"longest_hold",["duty","at"],["duty","at","tops","found","weaker"],[]⟩
def Jd4:D4:=⟨top 30,"hold_up",["duty","at"],["duty","at","longest"],[]⟩
def Jbh:D4:=⟨top 32,"comings_in",["work","span"],["work","span"],[]⟩
def Jk6:D4:=⟨top 33,"load",["duty","at","span"],["duty","at","span","stronger","asked_ahead"],[]⟩
def Jd5:D4:=⟨top 34,"in_time",["work","line"],["work","line"],[]⟩
def Jfd:D4:=⟨top 35,"answer",["duty","at"],["duty","at","line","least"],[]⟩
def Jae:D4:=⟨top 37,"may_be_weakest",["duty","left","weaker","at"],["duty","left","weaker","at","stronger"],[]⟩
def Jak:D4:=⟨top 38,"some_weakest",["duty","left","weaker"],["duty","left","weaker","at"],[]⟩
def Jfe:D4:=⟨top 39,"ranked",["duty"],["duty","left","weaker","at"],[]⟩
def Jb9:D4:=⟨top 43,"own_works",["works"],["works"],[]⟩
def Jc1:D4:=⟨top 44,"crowd_of",["works"],["works","greatest"],[]⟩
def Jb2:D4:=⟨Vu (top 45) 0,"Duty.__init__",["self","works"],["self","works"],[]⟩
def Jb3:D4:=⟨Vu (top 45) 1,"Duty.size",["self"],["self"],[]⟩
def Jb4:D4:=⟨Vu (top 45) 2,"Duty.work",["self","at"],["self","at"],[]⟩
def Jcy:D4:=⟨Vu (top 45) 4,"Duty.crowd",["self"],["self"],[]⟩
def Jad:D4:=⟨Vu (top 45) 5,"Duty.reordered",["self","places"],["self","places"],[]⟩
def Ja4:D4:=⟨top 47,"_law_cell_at",["_law_script","_law_k"],["_law_script","_law_k"],[]⟩
def Jbi:D4:=⟨top 48,"_law_stream",["_law_cell","_law_many"],["_law_cell","_law_many","_law_found","_law_rest","_law_k","_law_number"],[]⟩
def Jc3:D4:=⟨top 49,"_law_work",["_law_cell","_law_name","_law_unit","_law_many"],["_law_cell","_law_name","_law_unit","_law_many","_law_xs","_law_gap","_law_length","_law_last","_law_late","_law_holds","_law_start","_law_end"],[]⟩
def Jb6:D4:=⟨top 50,"_law_mixed",["_law_numbers","_law_cell"],["_law_numbers","_law_cell","_law_left","_law_found"],[]⟩
def Jag:D4:=⟨top 51,"_law_last_fits",["_law_works","_law_order","_law_many"],["_law_works","_law_order","_law_many","_law_duty"],[]⟩
def Ja5:D4:=⟨top 52,"_law_lowered",["_law_works","_law_stuck"],["_law_works","_law_stuck","_law_left","_law_below","_law_k","_law_chosen","_law_at","_law_others"],[]⟩
def Jac:D4:=⟨top 53,"_law_stuck_right",["_law_works","_law_stuck","_law_cell"],["_law_works","_law_stuck","_law_cell","_law_others","_law_at","_law_above","_law_order","_law_low"],[]⟩
def Q9:D4:=⟨top 54,"law",["_law_script"],["_law_script","_law_first","_law_unit","_law_many","_law_works","_law_k","_law_stuck","_law_order","e","_law_cell"],[]⟩
def T:Tab where
 fns:=[(("is_whole":Str),Jc2),(("is_whole_from":Str),Jaf),(("rounds_up":Str),Jca),(("is_name":Str),Jd7),(("is_hold":Str),Jd6),(("lie_apart":Str),Jb7),(("lies_in":Str),Jd8),(("go_together":Str),Ja3),(("all_go_together":Str),Jab),(("own_holds":Str),Jb8),(("own_due":Str),Jd9),(("ceilings":Str),Jc0),(("turns_held":Str),Jbj),(("longest_hold":Str),Jaj),(("hold_up":Str),Jd4),(("comings_in":Str),Jbh),(("load":Str),Jk6),(("in_time":Str),Jd5),(("answer":Str),Jfd),(("may_be_weakest":Str),Jae),(("some_weakest":Str),Jak),(("ranked":Str),Jfe),(("own_works":Str),Jb9),(("crowd_of":Str),Jc1),(("_law_cell_at":Str),Ja4),(("_law_stream":Str),Jbi),(("_law_work":Str),Jc3),(("_law_mixed":Str),Jb6),(("_law_last_fits":Str),Jag),(("_law_lowered":Str),Ja5),(("_law_stuck_right":Str),Jac),(("law":Str),Q9)]
 clss:=[("Work",Qe),("Duty",Jb2)]
 meths:=[("Work",([("held",Jb5)]:List (Str×D4))),("Duty",([("size",Jb3),("work",Jb4),("crowd",Jcy),("reordered",Jad)]:List (Str×D4)))]
 cons:=[("MOST_LETTERS",.int 8),("MOST_HOLDS",.int 6),("THING",.int 0),("START",.int 1),("END",.int 2),("MOST_WORKS",.int 12),("MOST_CROWD",.int 80)]
 isas:=[("Work",["Work"])]
 flds:=["append","due","extend","gap","hold_tuples","late","length","name","pop","remove","setdefault","works"]
 frees:=["all","bool","enumerate","int","isinstance","len","list","max","min","range","reversed","set","sorted","str","sum","tuple"]
 tabs:=["longest_hold"]
 razs:=["BadWork","BadDuty","TooMany"]
 xis:=[("NoRanks",[("BadWork",Zj),("BadDuty",Zj),("TooMany",Zj),("NoRanks",Ze)])]
 xms:=[(("NoRanks":Str),Jai)]
 xfs:=[(("stuck":Str),["NoRanks"])]
 xbs:=["DutyError"]
def Jhi:Str->Option Bool:=λ c=>JH c [("BadWork",Zj),("BadDuty",Zj),("TooMany",Zj),("NoRanks",Ze)]
abbrev pg (k:Nat):Pg:=mkPg T (run T k)
section
variable (k:Nat)(x0 x1 x2 x3 x4 x5 x6:IV)(h:IH)
abbrev Xu:=run T k Jai
abbrev Jcz:=run T k Jc2
abbrev QY:=run T k Jaf
abbrev Jb0:=run T k Jca
abbrev Jdh:=run T k Jd7
abbrev Jfo:=run T k Jd6
abbrev Jdc:=run T k Jb7
abbrev Jdi:=run T k Jd8
abbrev Jby:=run T k Ja3
abbrev Jah:=run T k Jab
abbrev Xy:=run T k Jb8
abbrev Xx:=run T k Jd9
abbrev Jbx:=run T k Qe
abbrev Jdb:=run T k Jb5
abbrev Jei:=run T k Jc0
abbrev Ja8:=run T k Jbj
abbrev Jbl:=run T k Jaj
abbrev Jfm:=run T k Jd4
abbrev Jcm:=run T k Jbh
abbrev Xw:=run T k Jk6
abbrev Jfn:=run T k Jd5
abbrev VR:=run T k Jfd
abbrev Jaw:=run T k Jae
abbrev Jbm:=run T k Jak
abbrev Jhj:=run T k Jfe
abbrev Jdd:=run T k Jb9
abbrev Jej:=run T k Jc1
abbrev QX:=run T k Jb2
abbrev Jc9:=run T k Jb3
abbrev Jda:=run T k Jb4
abbrev Jav:=run T k Jad
abbrev Ja2:=run T k Ja4
abbrev Jcn:=run T k Jbi
abbrev Jek:=run T k Jc3
abbrev Xv:=run T k Jb6
abbrev VT:=run T k Jag
abbrev Jbz:=run T k Ja5
abbrev Jaa:=run T k Jac
abbrev VS:=run T k Q9
def Jcf (k:Nat):S1:=(XS (xfOf T "stuck") "stuck" (Ja 0) (eCB (on1 Qp) (Jb (Ja 1) Jd)))
def Jce:S1:=Je (JT (XC (λ c=>((pg k).xo c).isSome) (Jb (Ja 0) (Jb (eC (.str "no order of the works keeps the duty")) Jd)))) (Jcf k)
theorem Jf8:Xu (k+1) [x0,x1] h=(Jce k [Za x0,Za x1] h).fin:=by kernel_rfl
def Jip (k:Nat):S1:=(Jm (eAnd (eIsi Vd (Ja 0)) (eUn (Vy tru) (eIsi Vc (Ja 0))) tru))
theorem Jkb:Jcz (k+1) [x0] h=(Jip k [Za x0] h).fin:=by kernel_rfl
def Jbo:S1:=(Jm (eAnd (Jn (Jcz k) [] (Jb (Ja 0) Jd)) (Jc cGe (Ja 0) (Ja 1)) tru))
theorem Je7:QY (k+1) [x0,x1] h=(Jbo k [Za x0,Za x1] h).fin:=by kernel_rfl
def Jd1 (k:Nat):S1:=(Jm (Jc JI (Jc Qi (Jc Jl (Ja 0) (Ja 1)) (eC (.int 1))) (Ja 1)))
theorem Jjb:Jb0 (k+1) [x0,x1] h=(Jd1 k [Za x0,Za x1] h).fin:=by kernel_rfl
def Jb1 (k:Nat):E1:=(QB cLe cLe (eC (.str "a")) (Ja 0) (eC (.str "z")))
def Jfv:S1:=(Jm (eCB (on1 allI) (Jb (Js (J0 (Ja 0)) 1 [] (gNm 0) JJ (Jb1 k)) Jd)))
def Jfu:S1:=Je (sIf (tOrI (J8 (Jh tru (eIsi Vo (Ja 0)))) (J8 (Jh asB (QB cLe cLe (eC (.int 1)) (eCB (on1 lenI) (Jb (Ja 0) Jd)) (eC (.int 8)))))) (Jm (eC (.bl Zj))) Jv) (Jfv k)
theorem Jmk:Jdh (k+1) [x0] h=(Jfu k [Za x0] h).fin:=by kernel_rfl
def Jft:S1:=(Jm (eAnd (Jn (QY k) [] (Jb (Jc Jk (Ja 0) (eC (.int 2))) (Jb (Jc Jl (Jc Jk (Ja 0) (eC (.int 1))) (eC (.int 1))) Jd))) (Jc cLt (Jc Jk (Ja 0) (eC (.int 2))) (Ja 1)) tru))
def Jfs:S1:=Je (sIf (J8 (Jh tru (Jn (QY k) [] (Jb (Jc Jk (Ja 0) (eC (.int 1))) (Jb (eC (.int 0)) Jd))))) (Jm (eC (.bl Zj))) Jv) (Jft k)
def Jfr:S1:=Je (sIf (tOrI (J8 (Jh tru (eIsi Vp (Ja 0)))) (tOrI (Jh asB (Jc cNe (eCB (on1 lenI) (Jb (Ja 0) Jd)) (eC (.int 3)))) (J8 (Jh tru (Jn (Jdh k) [] (Jb (Jc Jk (Ja 0) (eC (.int 0))) Jd)))))) (Jm (eC (.bl Zj))) Jv) (Jfs k)
theorem Jmj:Jfo (k+1) [x0,x1] h=(Jfr k [Za x0,Za x1] h).fin:=by kernel_rfl
def Jdq (k:Nat):S1:=(Jm (eOr (Jc cLe (Jc Jk (Ja 0) (eC (.int 2))) (Jc Jk (Ja 1) (eC (.int 1)))) (Jc cLe (Jc Jk (Ja 1) (eC (.int 2))) (Jc Jk (Ja 0) (eC (.int 1)))) tru))
theorem Ji8:Jdc (k+1) [x0,x1] h=(Jdq k [Za x0,Za x1] h).fin:=by kernel_rfl
def Jfx (k:Nat):S1:=(Jm (eAnd (Jc cLe (Jc Jk (Ja 1) (eC (.int 1))) (Jc Jk (Ja 0) (eC (.int 1)))) (Jc cLe (Jc Jk (Ja 0) (eC (.int 2))) (Jc Jk (Ja 1) (eC (.int 2)))) tru))
theorem Jml:Jdi (k+1) [x0,x1] h=(Jfx k [Za x0,Za x1] h).fin:=by kernel_rfl
def Jcq:S1:=(Jm (eOr (Jn (Jdi k) [] (Jb (Ja 0) (Jb (Ja 1) Jd))) (Jn (Jdi k) [] (Jb (Ja 1) (Jb (Ja 0) Jd))) tru))
def Jcp:S1:=Je (sIf (Jh asB (Jc cEq (Jc Jk (Ja 0) (eC (.int 0))) (Jc Jk (Ja 1) (eC (.int 0))))) (Jm (eC (.bl Zj))) Jv) (Jcq k)
def Jco:S1:=Je (sIf (Jh tru (Jn (Jdc k) [] (Jb (Ja 0) (Jb (Ja 1) Jd)))) (Jm (eC (.bl Ze))) Jv) (Jcp k)
theorem Jgr:Jby (k+1) [x0,x1] h=(Jco k [Za x0,Za x1] h).fin:=by kernel_rfl
def Jal:E1:=(Jn (Jby k) [] (Jb (Ja 1) (Jb (Ja 0) Jd)))
def Ja1:S1:=(sIf (J8 (Jh tru (eCB (on1 allI) (Jb (Js (J0 (eSl slI (Ja 0) XQ (Qy (Ja 1)))) 1 [2] (gNm 0) JJ (Jal k)) Jd)))) (Jm (eC (.bl Zj))) Jv)
def Ja7 (k:Nat):S1:=(Jm (eC (.bl Ze)))
def Ja6:S1:=Je (sFor (iRg QN (Jb (Ja 0) Jd)) (gTp 2 (gC (gNm 1) (gC (gNm 2) gN))) (Ja1 k)) (Ja7 k)
theorem Jeb:Jah (k+1) [x0] h=(Ja6 k [Za x0,Zb,Zb] h).fin:=by kernel_rfl
def Jct:E1:=(Jn (Jfo k) [] (Jb (Ja 0) (Jb (Ja 1) Jd)))
def Jcu (k:Nat):E1:=(eTup (Jb (Jc Jk (Ja 0) (eC (.int 0))) (Jb (Jc Jk (Ja 0) (eC (.int 1))) (Jb (Jc Jk (Ja 0) (eC (.int 2))) Jd))))
def Jdw:S1:=(Jm (eCB (on1 VJ) (Jb (Js (J0 (Ja 0)) 1 [] (gNm 0) JJ (Jcu k)) Jd)))
def Jdv:S1:=Je (sIf (J8 (Jh tru (Jn (Jah k) [] (Jb (Ja 0) Jd)))) (JO "BadWork" (Jb (eC (.str "two holds lie apart, or one in the other, and apart where they are of one thing")) Jd)) Jv) (Jdw k)
def Jdu:S1:=Je (sIf (J8 (Jh tru (eCB (on1 allI) (Jb (Js (J0 (Ja 0)) 1 [1] (gNm 0) JJ (Jct k)) Jd)))) (JO "BadWork" (Jb (eC (.str "a hold is a tuple (thing, start, end), with 0 <= start < end < length")) Jd)) Jv) (Jdv k)
def Jdt:S1:=Je (sIf (Jh asB (Jc cGt (eCB (on1 lenI) (Jb (Ja 0) Jd)) (eC (.int 6)))) (JO "BadWork" (Jb (eC (.str "a work has at most six holds")) Jd)) Jv) (Jdu k)
def Jds:S1:=Je (sIf (J8 (Jh tru (eIsi Ql (Ja 0)))) (JO "BadWork" (Jb (eC (.str "the holds are a list")) Jd)) Jv) (Jdt k)
def Jdr:S1:=Je (sIf (Jh asB (Jc cIs (Ja 0) (eC .non))) (Jm (eTup Jd)) Jv) (Jds k)
theorem Ji9:Xy (k+1) [x0,x1] h=(Jdr k [Za x0,Za x1] h).fin:=by kernel_rfl
def Jf0 (k:Nat):S1:=(Jm (Ja 0))
def Jfz:S1:=Je (sIf (tOrI (J8 (Jh tru (Jn (QY k) [] (Jb (Ja 0) (Jb (eC (.int 1)) Jd))))) (Jh asB (Jc cGt (Ja 0) (Ja 1)))) (JO "BadWork" (Jb (eC (.str "the due is a whole number from 1 to the gap")) Jd)) Jv) (Jf0 k)
def Jfy:S1:=Je (sIf (Jh asB (Jc cIs (Ja 0) (eC .non))) (Jm (Ja 1)) Jv) (Jfz k)
theorem Jmm:Xx (k+1) [x0,x1] h=(Jfy k [Za x0,Za x1] h).fin:=by kernel_rfl
def Jdp:S1:=(Q0 "hold_tuples" (Ja 0) (Jn (Xy k) [] (Jb (Ja 6) (Jb (Ja 3) Jd))))
def Jhk:S1:=Je (sIf (J8 (Jh tru (Jn (Jdh k) [] (Jb (Ja 1) Jd)))) (JO "BadWork" (Jb (eC (.str "the name is a text of one to eight small letters")) Jd)) Jv) (Je (sIf (J8 (Jh tru (Jn (QY k) [] (Jb (Ja 2) (Jb (eC (.int 1)) Jd))))) (JO "BadWork" (Jb (eC (.str "the gap is a whole number from 1 on")) Jd)) Jv) (Je (sIf (J8 (Jh tru (Jn (QY k) [] (Jb (Ja 3) (Jb (eC (.int 1)) Jd))))) (JO "BadWork" (Jb (eC (.str "the length is a whole number from 1 on")) Jd)) Jv) (Je (sIf (J8 (Jh tru (Jn (QY k) [] (Jb (Ja 5) (Jb (eC (.int 0)) Jd))))) (JO "BadWork" (Jb (eC (.str "the lateness is a whole number from 0 on")) Jd)) Jv) (Je (Q0 "name" (Ja 0) (Ja 1)) (Je (Q0 "gap" (Ja 0) (Ja 2)) (Je (Q0 "length" (Ja 0) (Ja 3)) (Je (Q0 "due" (Ja 0) (Jn (Xx k) [] (Jb (Ja 4) (Jb (Ja 2) Jd)))) (Je (Q0 "late" (Ja 0) (Ja 5)) (Jdp k)))))))))
theorem Ji6:Jbx (k+1) [x0,x1,x2,x3,x4,x5,x6] h=(Jhk k [Za x0,Za x1,Za x2,Za x3,Za x4,Za x5,Za x6] h).fin:=by kernel_rfl
def Jdo (k:Nat):S1:=(Jm (eCB (on1 Qp) (Jb (eFld "hold_tuples" (Ja 0)) Jd)))
theorem Ji5:Jdb (k+1) [x0] h=(Jdo k [Za x0] h).fin:=by kernel_rfl
def Jed:S1:=(JT (J1 (pg k) "setdefault" 2 (Ja 1) (Jb (Jc Jk (Ja 3) (eC (.int 0))) (Jb (Ja 2) Jd))))
def Jee:S1:=(sFor (J0 (J1 (pg k) "held" 0 (J1 (pg k) "work" 1 (Ja 0) (Jb (Ja 2) Jd)) Jd)) (gNm 3) (Jed k))
def Jey (k:Nat):S1:=(Jm (Ja 1))
def Jex:S1:=Je (sFor (iRg JD (Jb (J1 (pg k) "size" 0 (Ja 0) Jd) Jd)) (gNm 2) (Jee k)) (Jey k)
def Jew:S1:=Je (Ji 1 Jre) (Jex k)
theorem Jj9:Jei (k+1) [x0] h=(Jew k [Za x0,Zb,Zb,Zb] h).fin:=by kernel_rfl
def Jc6 (k:Nat):S1:=(Jm (Jc Qi (Jc Qi (Jc Jk (Ja 0) (eC (.int 2))) (Jc Jk (Ja 0) (eC (.int 1)))) (eC (.int 1))))
theorem Jhu:Ja8 (k+1) [x0] h=(Jc6 k [Za x0] h).fin:=by kernel_rfl
def Jbe (k:Nat):E1:=(eTup (Jb (Ja 3) (Jb (Ja 0) Jd)))
def Jbf (k:Nat):T1:=(Jh asB (Jc cLe (Jc Xg (Ja 2) (Jc Jk (Ja 0) (eC (.int 0)))) (Ja 1)))
def Jbv:S1:=(JT (J1 (pg k) "extend" 1 (Ja 3) (Jb (Js (J0 (J1 (pg k) "held" 0 (J1 (pg k) "work" 1 (Ja 0) (Jb (Ja 4) Jd)) Jd)) 1 [1,2,4] (gNm 0) (Jbf k) (Jbe k)) Jd)))
def Jbg:E1:=(Jn (Ja8 k) [] (Jb (Jc Jk (Ja 0) (eC (.int 1))) Jd))
def Jcj:S1:=(Jm (XF gtZ "longest_hold" 0 [] (Jb (Ja 3) Jd) (Jbg k) (eC .non)))
def Jci:S1:=Je (sFor (iRg Vw (Jb (Jc Jl (Ja 1) (eC (.int 1))) (Jb (J1 (pg k) "size" 0 (Ja 0) Jd) Jd))) (gNm 4) (Jbv k)) (Jcj k)
def Jch:S1:=Je (Ji 3 (J7 Jd)) (Jci k)
def Jcg:S1:=Je (Ji 2 (Jn (Jei k) [] (Jb (Ja 0) Jd))) (Jch k)
theorem Jf9:Jbl (k+1) [x0,x1] h=(Jcg k [Za x0,Za x1,Zb,Zb,Zb] h).fin:=by kernel_rfl
def Jde:S1:=(Jm (eIf (Jh asB (Jc cIs (Ja 2) (eC .non))) (eC (.int 0)) (Jn (Ja8 k) [] (Jb (Jc Jk (Ja 2) (eC (.int 1))) Jd))))
def Jfp:S1:=Je (Ji 2 (Jn (Jbl k) [] (Jb (Ja 0) (Jb (Ja 1) Jd)))) (Jde k)
theorem Jmh:Jfm (k+1) [x0,x1] h=(Jfp k [Za x0,Za x1,Zb] h).fin:=by kernel_rfl
def Jc5:S1:=(Jm (eIf (Jh asB (Jc cGe (Ja 1) (eC (.int 1)))) (Jn (Jb0 k) [] (Jb (Jc Jl (Ja 1) (eFld "late" (Ja 0))) (Jb (eFld "gap" (Ja 0)) Jd))) (eC (.int 0))))
theorem Jhs:Jcm (k+1) [x0,x1] h=(Jc5 k [Za x0,Za x1] h).fin:=by kernel_rfl
def X4:E1:=(J1 (pg k) "work" 1 (Ja 1) (Jb (Ja 0) Jd))
def Jg7:E1:=(Jc JW (Jn (Jcm k) [] (Jb (Ja 0) (Jb (Ja 1) Jd))) (eFld "length" (Ja 0)))
def Jk2:S1:=(Jm (Jc Jl (Jc Jl (Jn (Jfm k) [] (Jb (Ja 0) (Jb (Ja 1) Jd))) (eFld "length" (J1 (pg k) "work" 1 (Ja 0) (Jb (Ja 1) Jd)))) (Ja 4)))
def Jk1:S1:=Je (Ji 4 (eCB (on1 sumI) (Jb (Js (J0 (Ja 3)) 1 [2] (gNm 0) JJ (Jg7 k)) Jd))) (Jk2 k)
def Jk0:S1:=Je (Ji 3 (Js (iRg JD (Jb (Ja 1) Jd)) 1 [0] (gNm 0) JJ (X4 k))) (Jk1 k)
theorem Ju3:Xw (k+1) [x0,x1,x2] h=(Jk0 k [Za x0,Za x1,Za x2,Zb,Zb] h).fin:=by kernel_rfl
def Jfq (k:Nat):S1:=(Jm (Jc cLe (Jc Jl (Ja 1) (eFld "late" (Ja 0))) (eFld "due" (Ja 0))))
theorem Jmi:Jfn (k+1) [x0,x1] h=(Jfq k [Za x0,Za x1] h).fin:=by kernel_rfl
def Jgg:S1:=(Je (Ji 3 (Jn (Xw k) [] (Jb (Ja 0) (Jb (Ja 1) (Jb (Ja 2) Jd))))) (Je (sIf (Jh asB (Jc cLe (Ja 3) (Ja 2))) (Jm (Ja 2)) Jv) (Ji 2 (Ja 3))))
def Jg2 (k:Nat):S1:=(Jm (eC .non))
def Jg1:S1:=Je (VG (Jh tru (Jn (Jfn k) [] (Jb (J1 (pg k) "work" 1 (Ja 0) (Jb (Ja 1) Jd)) (Jb (Ja 2) Jd)))) (Jgg k)) (Jg2 k)
def Jg0:S1:=Je (Ji 2 (eC (.int 1))) (Jg1 k)
theorem Joh:VR (k+1) [x0,x1] h=(Jg0 k [Za x0,Za x1,Zb,Zb] h).fin:=by kernel_rfl
def Jaz (k:Nat):E1:=(Ja 0)
def Ja0 (k:Nat):T1:=(Jh asB (Jc cNe (Ja 0) (Ja 1)))
def Jbd:S1:=(Jm (Jc V6 (Jn (VR k) [] (Jb (J1 (pg k) "reordered" 1 (Ja 0) (Jb (Jc Jl (Jc Jl (Ja 4) (J7 (Jb (Ja 3) Jd))) (Ja 2)) Jd)) (Jb (eCB (on1 lenI) (Jb (Ja 4) Jd)) Jd))) (eC .non)))
def Jbc:S1:=Je (Ji 4 (Js (J0 (Ja 1)) 1 [3] (gNm 0) (Ja0 k) (Jaz k))) (Jbd k)
theorem Jer:Jaw (k+1) [x0,x1,x2,x3] h=(Jbc k [Za x0,Za x1,Za x2,Za x3,Zb] h).fin:=by kernel_rfl
def Jbw:S1:=(sIf (Jh tru (Jn (Jaw k) [] (Jb (Ja 0) (Jb (Ja 1) (Jb (Ja 2) (Jb (Ja 3) Jd)))))) (Jm (Ja 3)) Jv)
def Jcl (k:Nat):S1:=(Jm (eC .non))
def Jck:S1:=Je (sFor (iRg Vg (Jb (Ja 1) Jd)) (gNm 3) (Jbw k)) (Jcl k)
theorem Jga:Jbm (k+1) [x0,x1,x2] h=(Jck k [Za x0,Za x1,Za x2,Zb] h).fin:=by kernel_rfl
def Jgh:S1:=(Je (Ji 3 (Jn (Jbm k) [] (Jb (Ja 0) (Jb (Ja 1) (Jb (Ja 2) Jd))))) (Je (sIf (Jh asB (Jc cIs (Ja 3) (eC .non))) (XT (λ c=>c=="NoRanks") (Jla "NoRanks" (Xu k) [] (Jb (Ja 1) Jd))) Jv) (Je (JT (J1 (pg k) "remove" 1 (Ja 1) (Jb (Ja 3) Jd))) (Ji 2 (Jc Jl (J7 (Jb (Ja 3) Jd)) (Ja 2))))))
def Jg6 (k:Nat):S1:=(Jm (Ja 2))
def Jg5:S1:=Je (VG (Jh asB (Jc cGt (eCB (on1 lenI) (Jb (Ja 1) Jd)) (eC (.int 0)))) (Jgh k)) (Jg6 k)
def Jg4:S1:=Je (Ji 2 (J7 Jd)) (Jg5 k)
def Jg3:S1:=Je (Ji 1 (eLR (Jb (J1 (pg k) "size" 0 (Ja 0) Jd) Jd))) (Jg4 k)
theorem Joi:Jhj (k+1) [x0] h=(Jg3 k [Za x0,Zb,Zb,Zb] h).fin:=by kernel_rfl
def Jcv (k:Nat):E1:=(eIsi (Jth ["Work"]) (Ja 0))
def Jcw (k:Nat):E1:=(eFld "name" (Ja 0))
def Jd0 (k:Nat):S1:=(Jm (eCB (on1 VJ) (Jb (Ja 0) Jd)))
def Jdz:S1:=Je (sIf (Jh asB (Jc cNe (XD (Jb (Js (J0 (Ja 0)) 1 [] (gNm 0) JJ (Jcw k)) Jd)) (eCB (on1 lenI) (Jb (Ja 0) Jd)))) (JO "BadDuty" (Jb (eC (.str "no two works of a duty have one name")) Jd)) Jv) (Jd0 k)
def Jdy:S1:=Je (sIf (J8 (Jh tru (eCB (on1 allI) (Jb (Js (J0 (Ja 0)) 1 [] (gNm 0) JJ (Jcv k)) Jd)))) (JO "BadDuty" (Jb (eC (.str "a duty is made of works alone")) Jd)) Jv) (Jdz k)
def Jdx:S1:=Je (sIf (J8 (Jh tru (eIsi Ql (Ja 0)))) (JO "BadDuty" (Jb (eC (.str "a duty is made of a list of works")) Jd)) Jv) (Jdy k)
theorem Jja:Jdd (k+1) [x0] h=(Jdx k [Za x0] h).fin:=by kernel_rfl
def Jc7 (k:Nat):E1:=(eFld "due" (Ja 0))
def Jc8:E1:=(Jn (Jb0 k) [] (Jb (Jc Jl (Ja 1) (eFld "late" (Ja 0))) (Jb (eFld "gap" (Ja 0)) Jd)))
def Je0:S1:=(Jm (eCB (on1 sumI) (Jb (Js (J0 (Ja 0)) 1 [1] (gNm 0) JJ (Jc8 k)) Jd)))
def Jez:S1:=Je (Ji 1 (XE (Jb (Js (J0 (Ja 0)) 1 [] (gNm 0) JJ (Jc7 k)) Jd) (eC (.int 0)))) (Je0 k)
theorem Jka:Jej (k+1) [x0] h=(Jez k [Za x0,Zb] h).fin:=by kernel_rfl
def Jdl:S1:=(sIf (Jh asB (Jc cGt (Jn (Jej k) [] (Jb (eFld "works" (Ja 0)) Jd)) (eC (.int 80)))) (JO "TooMany" (Jb (eC (.str "the crowd of a duty is at most 80")) Jd)) Jv)
def Jdk:S1:=Je (sIf (Jh asB (Jc cGt (eCB (on1 lenI) (Jb (eFld "works" (Ja 0)) Jd)) (eC (.int 12)))) (JO "TooMany" (Jb (eC (.str "a duty has at most twelve works")) Jd)) Jv) (Jdl k)
def Jdj:S1:=Je (Q0 "works" (Ja 0) (Jn (Jdd k) [] (Jb (Ja 1) Jd))) (Jdk k)
theorem Ji2:QX (k+1) [x0,x1] h=(Jdj k [Za x0,Za x1] h).fin:=by kernel_rfl
def Jdm (k:Nat):S1:=(Jm (eCB (on1 lenI) (Jb (eFld "works" (Ja 0)) Jd)))
theorem Ji3:Jc9 (k+1) [x0] h=(Jdm k [Za x0] h).fin:=by kernel_rfl
def Jdn (k:Nat):S1:=(Jm (Jc Jk (eFld "works" (Ja 0)) (Ja 1)))
theorem Ji4:Jda (k+1) [x0,x1] h=(Jdn k [Za x0,Za x1] h).fin:=by kernel_rfl
def Jax:E1:=(Jn (Jcz k) [] (Jb (Ja 0) Jd))
def Jay (k:Nat):E1:=(Jc Jk (eFld "works" (Ja 1)) (Ja 0))
def Jbb:S1:=(Jm (Qn "Duty" (QX k) [] (Jb (Js (J0 (Ja 1)) 1 [0] (gNm 0) JJ (Jay k)) Jd)))
def Jba:S1:=Je (sIf (Jh asB (Jc cNe (eCB (on1 Xl) (Jb (Ja 1) Jd)) (eLR (Jb (J1 (pg k) "size" 0 (Ja 0) Jd) Jd)))) (JO "BadDuty" (Jb (eC (.str "each number of a work stands just once in an order")) Jd)) Jv) (Jbb k)
def Ja9:S1:=Je (sIf (tOrI (J8 (Jh tru (eIsi Ql (Ja 1)))) (J8 (Jh tru (eCB (on1 allI) (Jb (Js (J0 (Ja 1)) 1 [] (gNm 0) JJ (Jax k)) Jd))))) (JO "BadDuty" (Jb (eC (.str "works are put in order by a list of their numbers")) Jd)) Jv) (Jba k)
theorem Jeq:Jav (k+1) [x0,x1] h=(Ja9 k [Za x0,Za x1] h).fin:=by kernel_rfl
def Jcs (k:Nat):S1:=(Jm (eC (.int 0)))
def Jcr:S1:=Je (sIf (Jh asB (Jc cLt (Ja 1) (eCB (on1 lenI) (Jb (Ja 0) Jd)))) (Jm (Jc Jk (Ja 0) (Ja 1))) Jv) (Jcs k)
theorem Jgs:Ja2 (k+1) [x0,x1] h=(Jcr k [Za x0,Za x1] h).fin:=by kernel_rfl
def Jgp:S1:=Je (Ji 2 (J7 Jd)) (Je (sIf (Jh asB (Jc cGe (Ja 0) (Jc JK (eC (.int 10)) (eC (.int 30))))) (Je (Ji 3 (Jc Qi (Ja 0) (Jc JK (eC (.int 10)) (eC (.int 30))))) (Je (sFor (iRg JD (Jb (Ja 1) Jd)) (gNm 4) (Je (JT (J1 (pg k) "append" 1 (Ja 2) (Jb (Jc J2 (Ja 3) (Jc JK (eC (.int 10)) (eC (.int 45)))) Jd))) (Ji 3 (Jc JI (Ja 3) (Jc JK (eC (.int 10)) (eC (.int 45))))))) (Jm (Ja 2)))) Jv) (Je (Ji 5 (Jc Jl (Jc J2 (Ja 0) (Jc Jl (Jc JK (eC (.int 10)) (eC (.int 18))) (eC (.int 9)))) (eC (.int 48271)))) (Je (sFor (iRg JD (Jb (Jc Jl (Ja 1) (eC (.int 2))) Jd)) (gNm 4) (Je (Ji 5 (Jc J2 (Jc Jl (Jc Jl (Jc JW (Ja 5) (Ja 5)) (Jc JW (eC (.int 48271)) (Ja 5))) (Ja 4)) (Jc Jl (Jc JK (eC (.int 10)) (eC (.int 18))) (eC (.int 9))))) (JT (J1 (pg k) "append" 1 (Ja 2) (Jb (Ja 5) Jd))))) (Jm (eSl slI (Ja 2) (Qy (eC (.int 2))) XQ)))))
theorem Jht:Jcn (k+1) [x0,x1] h=(Jgp k [Za x0,Za x1,Zb,Zb,Zb,Zb] h).fin:=by kernel_rfl
def Je2:S1:=(Jm (Qn "Work" (Jbx k) [] (Jb (Ja 1) (Jb (Ja 5) (Jb (Ja 6) (Jb (Ja 7) (Jb (Ja 8) (Jb (Ja 9) Jd))))))))
def Je1:S1:=Je (Ji 6 (Jc Jl (eC (.int 1)) (Jc J2 (Jc Jk (Ja 4) (eC (.int 2))) (Jc Jl (Jc JI (Jc JW (Ja 5) (Jc Jk (J7 (Jb (eC (.int 1)) (Jb (eC (.int 2)) (Jb (eC (.int 4)) Jd)))) (Jc J2 (Jc JI (Jc Jk (Ja 4) (eC (.int 1))) (eC (.int 5))) (eC (.int 3))))) (Jc JW (eC (.int 2)) (Ja 3))) (eC (.int 1)))))) (Je (Ji 7 (Jc Qi (Ja 5) (Jc JW (Jc J2 (Jc Jk (Ja 4) (eC (.int 3))) (eC (.int 2))) (Jc J2 (Jc Jk (Ja 4) (eC (.int 4))) (Jc Jl (Jc JI (Jc JW (Ja 5) (eC (.int 9))) (eC (.int 10))) (eC (.int 1))))))) (Je (Ji 8 (Jc JW (Jc J2 (Jc Jk (Ja 4) (eC (.int 5))) (eC (.int 2))) (Jc J2 (Jc Jk (Ja 4) (eC (.int 6))) (Jc Jl (Jc JI (Ja 5) (eC (.int 4))) (eC (.int 1)))))) (Je (Ji 9 (J7 Jd)) (Je (sIf (Q3 (Jh asB (Jc cGt (Ja 6) (eC (.int 1)))) (Jh asB (Jc cEq (Jc J2 (Jc Jk (Ja 4) (eC (.int 7))) (eC (.int 3))) (eC (.int 0))))) (Je (Ji 10 (Jc J2 (Jc Jk (Ja 4) (eC (.int 8))) (Jc Qi (Ja 6) (eC (.int 1))))) (Je (Ji 11 (Jc Jl (Jc Jl (Ja 10) (eC (.int 1))) (Jc J2 (Jc Jk (Ja 4) (eC (.int 9))) (Jc Qi (Jc Qi (Ja 6) (eC (.int 1))) (Ja 10))))) (JT (J1 (pg k) "append" 1 (Ja 9) (Jb (eTup (Jb (Jc Jk (J7 (Jb (eC (.str "ink")) (Jb (eC (.str "oven")) Jd))) (Jc J2 (Jc JI (Jc Jk (Ja 4) (eC (.int 7))) (eC (.int 3))) (eC (.int 2)))) (Jb (Ja 10) (Jb (Ja 11) Jd)))) Jd))))) Jv) (Je2 k)))))
def Jiq:S1:=Je (Ji 4 (Jn (Jcn k) [] (Jb (Ja 0) (Jb (eC (.int 10)) Jd)))) (Je (Ji 5 (Jc Jl (Jc JW (Ja 2) (Jc Jl (eC (.int 1)) (Jc J2 (Jc Jk (Ja 4) (eC (.int 0))) (eC (.int 8))))) (Jc J2 (Jc Jk (Ja 4) (eC (.int 1))) (eC (.int 5))))) (Je (sIf (Jh asB (Jc cGt (Ja 3) (eC (.int 5)))) (Ji 5 (Jc Jl (Jc JW (Ja 2) (Jc Jl (eC (.int 1)) (Jc J2 (Jc Jk (Ja 4) (eC (.int 0))) (eC (.int 2))))) (Jc J2 (Jc Jk (Ja 4) (eC (.int 1))) (eCB (on2 minI) (Jb (eC (.int 5)) (Jb (Jc Jl (eC (.int 1)) (Jc JI (Ja 2) (eC (.int 2)))) Jd)))))) Jv) (Je1 k)))
theorem Jkc:Jek (k+1) [x0,x1,x2,x3] h=(Jiq k [Za x0,Za x1,Za x2,Za x3,Zb,Zb,Zb,Zb,Zb,Zb,Zb,Zb] h).fin:=by kernel_rfl
def Jhl:S1:=Je (Ji 2 (eCB (on1 Qp) (Jb (Ja 0) Jd))) (Je (Ji 3 (J7 Jd)) (Je (VG (Jh asB (Jc cNe (Ja 2) (J7 Jd))) (Je (JT (J1 (pg k) "append" 1 (Ja 3) (Jb (J1 (pg k) "pop" 1 (Ja 2) (Jb (Jc J2 (Ja 1) (eCB (on1 lenI) (Jb (Ja 2) Jd))) Jd)) Jd))) (Ji 1 (Jc JI (Ja 1) (eC (.int 5)))))) (Jm (Ja 3))))
theorem Ji7:Xv (k+1) [x0,x1] h=(Jhl k [Za x0,Za x1,Zb,Zb] h).fin:=by kernel_rfl
def Jbp:S1:=(Jm (Jc V6 (Jn (VR k) [] (Jb (Ja 3) (Jb (Jc Qi (Ja 2) (eC (.int 1))) Jd))) (eC .non)))
def Jen:S1:=Je (sIf (Jh asB (Jc cEq (Jc J2 (eCB (on1 sumI) (Jb (eUn evnI (Ja 1)) Jd)) (eC (.int 2))) (eC (.int 1)))) (Ji 3 (J1 (pg k) "reordered" 1 (Qn "Duty" (QX k) [] (Jb (Ja 0) Jd)) (Jb (eCB (on1 Qp) (Jb (Ja 1) Jd)) Jd))) (Ji 3 (Qn "Duty" (QX k) [] (Jb (Js (J0 (Ja 1)) 1 [0] (gNm 0) JJ (Jc Jk (Ja 1) (Ja 0))) Jd)))) (Jbp k)
theorem Je8:VT (k+1) [x0,x1,x2] h=(Jen k [Za x0,Za x1,Za x2,Zb] h).fin:=by kernel_rfl
def Jbq (k:Nat):E1:=(Ja 0)
def Jbr (k:Nat):T1:=(Jh asB (Jc cNe (Ja 0) (Ja 1)))
def Jbs (k:Nat):E1:=(Ja 0)
def Jbt (k:Nat):T1:=(Jh asB (Jc cNe (Ja 0) (Ja 1)))
def Jfw:S1:=Je (Ji 2 (eLR (Jb (eCB (on1 lenI) (Jb (Ja 0) Jd)) Jd))) (Je (Ji 3 (J7 Jd)) (Je (sFor (iRg JD (Jb (Jc Qi (eCB (on1 lenI) (Jb (Ja 0) Jd)) (eCB (on1 lenI) (Jb (Ja 1) Jd))) Jd)) (gNm 4) (Je (Ji 5 (eC .non)) (Je (sFor (J0 (Ja 2)) (gNm 6) (Je (Ji 7 (Js (J0 (Ja 2)) 1 [6] (gNm 0) (Jbr k) (Jbq k))) (sIf (Q3 (Jh asB (Jc cIs (Ja 5) (eC .non))) (Q3 (Jh asB (Jc V7 (Ja 6) (Ja 1))) (Jh tru (Jn (VT k) [] (Jb (Ja 0) (Jb (Jc Jl (Jc Jl (Ja 7) (J7 (Jb (Ja 6) Jd))) (Ja 3)) (Jb (eCB (on1 lenI) (Jb (Ja 2) Jd)) Jd))))))) (Ji 5 (Ja 6)) Jv))) (Je (sIf (Jh asB (Jc cIs (Ja 5) (eC .non))) (Jm (eC (.bl Zj))) Jv) (Je (Ji 2 (Js (J0 (Ja 2)) 1 [5] (gNm 0) (Jbt k) (Jbs k))) (Ji 3 (Jc Jl (J7 (Jb (Ja 5) Jd)) (Ja 3)))))))) (Jm (eC (.bl Ze)))))
theorem Jgt:Jbz (k+1) [x0,x1] h=(Jfw k [Za x0,Za x1,Zb,Zb,Zb,Zb,Zb,Zb] h).fin:=by kernel_rfl
def Jam (k:Nat):E1:=(eAnd (eIsi Vd (Ja 0)) (eUn (Vy tru) (eIsi Vc (Ja 0))) tru)
def Jan (k:Nat):E1:=(Ja 0)
def Jao (k:Nat):T1:=(Jh asB (Jc cIn (Ja 0) (Ja 1)))
def Jap (k:Nat):E1:=(Ja 0)
def Jaq (k:Nat):T1:=(Jh asB (Jc V7 (Ja 0) (Ja 1)))
def Jar (k:Nat):E1:=(Ja 0)
def Jas (k:Nat):T1:=(Jh asB (Jc cNe (Ja 0) (Ja 1)))
def Jat (k:Nat):E1:=(Ja 0)
def Jau (k:Nat):T1:=(Jh asB (Jc cIn (Jc Jk (Ja 1) (Ja 0)) (Ja 2)))
def Jdf:S1:=Je (sIf (tOrI (J8 (Jh tru (eIsi Ql (Ja 1)))) (Jh asB (Jc cEq (Ja 1) (J7 Jd)))) (Jm (eC (.bl Zj))) Jv) (Je (sIf (J8 (Jh tru (eCB (on1 allI) (Jb (Js (J0 (Ja 1)) 1 [] (gNm 0) JJ (Jam k)) Jd)))) (Jm (eC (.bl Zj))) Jv) (Je (sIf (Jh asB (Jc cNe (Js (iRg JD (Jb (eCB (on1 lenI) (Jb (Ja 0) Jd)) Jd)) 1 [1] (gNm 0) (Jao k) (Jan k)) (Ja 1))) (Jm (eC (.bl Zj))) Jv) (Je (Ji 3 (Jn (Xv k) [] (Jb (Js (iRg JD (Jb (eCB (on1 lenI) (Jb (Ja 0) Jd)) Jd)) 1 [1] (gNm 0) (Jaq k) (Jap k)) (Jb (Jc JI (Ja 2) (eC (.int 3))) Jd)))) (Je (sFor (J0 (Ja 1)) (gNm 4) (Je (Ji 5 (Jn (Xv k) [] (Jb (Js (J0 (Ja 1)) 1 [4] (gNm 0) (Jas k) (Jar k)) (Jb (Ja 2) Jd)))) (sIf (Jh tru (Jn (VT k) [] (Jb (Ja 0) (Jb (Jc Jl (Jc Jl (Ja 5) (J7 (Jb (Ja 4) Jd))) (Ja 3)) (Jb (eCB (on1 lenI) (Jb (Ja 1) Jd)) Jd))))) (Jm (eC (.bl Zj))) Jv))) (Je (Ji 6 (Jn (Xv k) [] (Jb (eLR (Jb (eCB (on1 lenI) (Jb (Ja 0) Jd)) Jd)) (Jb (Jc JI (Ja 2) (eC (.int 7))) Jd)))) (Je (Ji 7 (eCB (on1 Xf) (Jb (Js (iRg JD (Jb (eCB (on1 lenI) (Jb (Ja 6) Jd)) Jd)) 1 [6,1] (gNm 0) (Jau k) (Jat k)) Jd))) (Jm (eUn (Vy tru) (Jn (VT k) [] (Jb (Ja 0) (Jb (Ja 6) (Jb (Jc Jl (Ja 7) (eC (.int 1))) Jd))))))))))))
theorem Jec:Jaa (k+1) [x0,x1,x2] h=(Jdf k [Za x0,Za x1,Za x2,Zb,Zb,Zb,Zb,Zb] h).fin:=by kernel_rfl
def Jf2:E1:=(Jn (VT k) [] (Jb (Ja 2) (Jb (Ja 1) (Jb (Jc Jl (Ja 0) (eC (.int 1))) Jd))))
def Jns:S1:=Je (Ji 6 (eC .non)) (Je (Ji 7 (J7 Jd)) (Je (sTry (Ji 7 (Jn (Jhj k) [] (Jb (Qn "Duty" (QX k) [] (Jb (Ja 4) Jd)) Jd))) [(Jhi,Za 8,(Ji 6 (VW (xfOf T "stuck") "stuck" (Ja 8))))]) (Je (sIf (Jh asB (Jc cIs (Ja 6) (eC .non))) (Jm (eCB (on1 allI) (Jb (Js (iRg JD (Jb (Ja 3) Jd)) 1 [7,4] (gNm 0) JJ (Jf2 k)) Jd))) Jv) (Je (sFor (J0 (eSl slI (Ja 0) (Qy (Jc Jl (eC (.int 1)) (Ja 3))) (Qy (Jc Jl (eC (.int 4)) (Ja 3))))) (gNm 9) (sIf (J8 (Jh tru (Jn (Jaa k) [] (Jb (Ja 4) (Jb (Ja 6) (Jb (Jc J2 (Ja 9) (Jc JK (eC (.int 10)) (eC (.int 30)))) Jd)))))) (Jm (eC (.bl Zj))) Jv)) (Jm (eAnd (Jn (Jaa k) [] (Jb (Ja 4) (Jb (Ja 6) (Jb (Jc J2 (Jc JI (Ja 1) (eC (.int 40))) (Jc JK (eC (.int 10)) (eC (.int 30)))) Jd)))) (Jn (Jbz k) [] (Jb (Ja 4) (Jb (Ja 6) Jd))) tru))))))
def Jnr:S1:=Je (Ji 4 (J7 Jd)) (Je (sFor (iRg JD (Jb (Ja 3) Jd)) (gNm 5) (JT (J1 (pg k) "append" 1 (Ja 4) (Jb (Jn (Jek k) [] (Jb (Jn (Ja2 k) [] (Jb (Ja 0) (Jb (Jc Jl (eC (.int 1)) (Ja 5)) Jd))) (Jb (Jc Jl (eC (.str "press")) (Jc Jk (eC (.str "abcdefghijkl")) (Ja 5))) (Jb (Ja 2) (Jb (Ja 3) Jd))))) Jd)))) (Jns k))
def Jul:S1:=Je (Ji 1 (Jn (Ja2 k) [] (Jb (Ja 0) (Jb (eC (.int 0)) Jd)))) (Je (Ji 2 (Jc Jl (eC (.int 1)) (Jc J2 (Jc JI (Ja 1) (eC (.int 4))) (Jc Jk (J7 (Jb (eC (.int 3)) (Jb (Jc JK (eC (.int 10)) (eC (.int 15))) Jd))) (Jc J2 (Ja 1) (eC (.int 2))))))) (Je (Ji 3 (Jc Jl (eC (.int 1)) (Jc J2 (Jc JI (Ja 1) (eC (.int 8))) (eC (.int 5))))) (Je (sIf (Jh asB (Jc cEq (Jc J2 (Jc JI (Ja 1) (eC (.int 40))) (eC (.int 8))) (eC (.int 3)))) (Ji 3 (Jc Jl (eC (.int 6)) (Jc J2 (Jc JI (Ja 1) (eC (.int 320))) (eC (.int 7))))) Jv) (Jnr k))))
theorem Jxv:VS (k+1) [x0] h=(Jul k [Za x0,Zb,Zb,Zb,Zb,Zb,Zb,Zb,Zb,Zb] h).fin:=by kernel_rfl
end
theorem Je3 (k:Nat):Vf (pg k) "held" 0 "Work"=Za (Jdb k,[]):=by kernel_rfl
theorem Jbk (k:Nat):Vf (pg k) "size" 0 "Duty"=Za (Jc9 k,[]):=by kernel_rfl
theorem X9 (k:Nat):Vf (pg k) "work" 1 "Duty"=Za (Jda k,[]):=by kernel_rfl
theorem Jbu (k:Nat):Vf (pg k) "reordered" 1 "Duty"=Za (Jav k,[]):=by kernel_rfl
end LW
section
open PySem L2 L3 L4
local macro_rules | `(tactic| simp! [$xs,*]) => `(tactic| simp (implicitDefEqProofs := Zj) only [Jl7, Jqy, Jkw, Jl8, Jtd, Jin, Jkx, Jim, Jqw, Jqx, Jkv, Jqz, Ym, QK, Jq, QW, Qr, Jrh, Juv, Vl, Jtc, Jqf, Jxb, Jw2, Jik, Jqu, Jil, Xs, Jfl, Jkp, QV, Jl6, VM, Qj, VN, Jwv, Jqs, Jl0, Jii, Jij, Yl, Jqk, Jly, Jqt, Jqp, Jl4, Jif, Jl3, VO, Jid, Jw6, Jw4, Jw1, Jw0, Jwz, Jw9, Jqi, Jqq, Jqh, Jkt, Jqr, Jlz, Jxa, Jig, Ye, Yk, Jkr, Jql, Jqn, Jqm, Jl5, Jih, Zc3, ZbO, ZaK, ZH, Za9, exists_eq_left, exists_eq_left', IV.bl.injEq, IV.int.injEq, IV.ref.injEq, IV.str.injEq, IX.lst.injEq, IV.tup.injEq, ZaI, Zcu, Zcd, reduceCtorEq, eq_self, true_implies, false_implies, implies_true, and_true, true_and, and_false, false_and, Zbw, Zbx, Zag, Yb, XX, Yc, XY, XZ, Ya, Vd, Vc, Vo, Ql, Vn, Vp, Xr, Yf, Vq, Vr, VU, X1, Yj, Yh, Yi, $xs,*])
local macro_rules | `(tactic| simp_all! [$xs,*]) => `(tactic| try simp (implicitDefEqProofs := Zj) only [Jl7, Jqy, Jkw, Jl8, Jtd, Jin, Jkx, Jim, Jqw, Jqx, Jkv, Jqz, Ym, QK, Jq, QW, Qr, Jrh, Juv, Vl, Jtc, Jqf, Jxb, Jw2, Jik, Jqu, Jil, Xs, Jfl, Jkp, QV, Jl6, VM, Qj, VN, Jwv, Jqs, Jl0, Jii, Jij, Yl, Jqk, Jly, Jqt, Jqp, Jl4, Jif, Jl3, VO, Jid, Jw6, Jw4, Jw1, Jw0, Jwz, Jw9, Jqi, Jqq, Jqh, Jkt, Jqr, Jlz, Jxa, Jig, Ye, Yk, Jkr, Jql, Jqn, Jqm, Jl5, Jih, Zc3, ZbO, ZaK, ZH, Za9, exists_eq_left, exists_eq_left', IV.bl.injEq, IV.int.injEq, IV.ref.injEq, IV.str.injEq, IX.lst.injEq, IV.tup.injEq, ZaI, Zcu, Zcd, reduceCtorEq, eq_self, true_implies, false_implies, implies_true, and_true, true_and, and_false, false_and, Zbw, Zbx, Zag, Yb, XX, Yc, XY, XZ, Ya, Vd, Vc, Vo, Ql, Vn, Vp, Xr, Yf, Vq, Vr, VU, X1, Yj, Yh, Yi, $xs,*])
local macro_rules | `(tactic| dsimp! [$xs,*]) => `(tactic| simp (implicitDefEqProofs := Zj) only [Jl7, Jqy, Jkw, Jl8, Jtd, Jin, Jkx, Jim, Jqw, Jqx, Jkv, Jqz, Ym, QK, Jq, QW, Qr, Jrh, Juv, Vl, Jtc, Jqf, Jxb, Jw2, Jik, Jqu, Jil, Xs, Jfl, Jkp, QV, Jl6, VM, Qj, VN, Jwv, Jqs, Jl0, Jii, Jij, Yl, Jqk, Jly, Jqt, Jqp, Jl4, Jif, Jl3, VO, Jid, Jw6, Jw4, Jw1, Jw0, Jwz, Jw9, Jqi, Jqq, Jqh, Jkt, Jqr, Jlz, Jxa, Jig, Ye, Yk, Jkr, Jql, Jqn, Jqm, Jl5, Jih, Zc3, ZbO, ZaK, ZH, Za9, $xs,*])
namespace LW
open PySem L2 L3 L4
section
variable {k:Nat}{h:IH}
theorem JC:1000000<sizeLine:=by decide
theorem Jkm (o o':IX):List.set (h++[o]) h.length o'=h++[o']:=by
 rw[ZcJ _ _ (Zr _),ZeA];rfl
theorem V0 (o o':IX)(g:IH):List.set (h++o::g) h.length o'=h++o'::g:=by
 rw[ZcJ _ _ (Zr _),ZeA];rfl
end
section
seal L4.run
section
variable {α β:Type}{σ:ISt}{h h1:IH}{N:ISt->IH->Prop}{R:IV->IH->Prop}{P:IV->IH->Prop}
theorem xb {r:Res α}{f:α->IH->Res β}{Q:β->IH->Prop}(x:WR r λ a h=>WR (f a h) Q):WR (r.bind f) Q:=(Jq ..).mpr x
theorem xseq {a b:S1}(x:WS (a σ h) (λ σ1 h1=>WS (b σ1 h1) N R) R):WS (Je a b σ h) N R:=(Jl7 ..).mpr x
theorem xfin {r:SRes}(x:WS r (λ _ h=>P .non h) P):WR r.fin P:=(Jlz ..).mpr x
theorem xset {i:Nat}{e:E1}(x:WR (e σ h) λ v h1=>N (σ.set i (Za v)) h1):WS (Ji i e σ h) N R:=(Jl8 ..).mpr x
theorem xret {e:E1}(x:WR (e σ h) R):WS (Jm e σ h) N R:=(Jin ..).mpr x
theorem Yn {e:E1}(x:WR (e σ h) λ _ h1=>N σ h1):WS (JT e σ h) N R:=(Jim ..).mpr x
theorem xif {t:T1}{a b:S1}(x:WR (t σ h) λ c h1=>(c=Ze->WS (a σ h1) N R)/\(c=Zj->WS (b σ h1) N R)):WS (sIf t a b σ h) N R:=(Jtd ..).mpr x
theorem Jxh {a b:T1}{Q:Bool->IH->Prop}(x:WR (a σ h) λ c h1=>(c=Ze->WR (b σ h1) Q)/\(c=Zj->Q Zj h1)):WR (Q3 a b σ h) Q:=(Jik ..).mpr x
theorem xdec {p:Prop}[Decidable p]{a b:Prop}(x:p->a)(y:¬p->b):(decide p=Ze->a)/\(decide p=Zj->b):=⟨λ e=>x (of_decide_eq_true e),λ e=>y (of_decide_eq_false e)⟩
theorem xnil (x:N σ h):WS (Jv σ h) N R:=x
theorem xtup {a:A1}(x:WR (a σ h) λ xs h1=>xs.length<=sizeLine/\P (.tup xs) h1):WR (eTup a σ h) P:=(Jl6 ..).mpr x
theorem xlst {a:A1}(x:WR (a σ h) λ xs h1=>xs.length<=sizeLine/\P (.ref h1.length) (h1++[.lst xs])):WR (J7 a σ h) P:=(VM ..).mpr x
theorem xixl {i:Nat}{n:Int}{xs:List IV}{x:IV}(g:h[i]?=Za (.lst xs))(e:atI xs n=Za x)(q:P x h):WR (Jk (.ref i) (.int n) h) P:=(Jz4 ..).mpr ⟨_,g,_,e,q⟩
theorem J14 {i:Nat}{xs:List IV}(g:h[i]?=Za (.lst xs))(q:P (.int xs.length) h):WR (lenI (.ref i) h) P:=(Yg ..).mpr ⟨_,g,q⟩
theorem xmod {i j:Int}(l:0<j)(q:P (.int (i%j)) h):WR (J2 (.int i) (.int j) h) P:=(Jl3 ..).mpr ⟨l,q⟩
theorem J13 {i j:Int}(l:0<j/\j.natAbs.log2<9000)(q:P (.int (i/j)) h):WR (JI (.int i) (.int j) h) P:=(Jif ..).mpr ⟨l,q⟩
theorem xmul {i j:Int}(l:Q8 i j)(q:P (.int (i*j)) h):WR (JW (.int i) (.int j) h) P:=(Jl4 ..).mpr ⟨l,q⟩
theorem binE {f:IV->IV->IH->Res IV}{a b:E1}{x y:IV}{h2:IH}(ea:a σ h=.ok x h1)(eb:b σ h1=.ok y h2):Jc f a b σ h=f x y h2:=by unfold Jc;rw[ea];dsimp only[Res.bind];rw[eb]
theorem arg1 {a:E1}{x:IV}(ea:a σ h=.ok x h1):Jb a Jd σ h=.ok [x] h1:=by unfold Jb;rw[ea];rfl
theorem arg2 {a b:E1}{x y:IV}{h2:IH}(ea:a σ h=.ok x h1)(eb:b σ h1=.ok y h2):Jb a (Jb b Jd) σ h=.ok [x,y] h2:=by unfold Jb;rw[ea];dsimp only[Res.bind];rw[eb];rfl
theorem cbE {f:List IV->IH->Res IV}{a:A1}{xs:List IV}(ea:a σ h=.ok xs h1):eCB f a σ h=f xs h1:=by unfold eCB;rw[ea];rfl
theorem X5 {f:List IV->IH->Res IV}{d:List IV}{a:A1}{xs:List IV}{v:IV}{h2:IH}(ea:a σ h=.ok xs h1)(ef:f (xs++d) h1=.ok v h2):Jn f d a σ h=.ok v h2:=by unfold Jn;rw[ea];exact ef
theorem tofE {a:E1}{c:Bool}(ea:a σ h=.ok (.bl c) h1):Jh asB a σ h=.ok c h1:=by unfold Jh;rw[ea];rfl
theorem lenE {a:E1}{i:Nat}{xs:List IV}(ea:a σ h=.ok (.ref i) h1)(g:h1[i]?=Za (.lst xs)):eCB (on1 lenI) (Jb a Jd) σ h=.ok (.int xs.length) h1:=by
 rw[cbE (arg1 ea)]
 exact Jz (J14 g ⟨rfl,rfl⟩)
theorem ixlE {a b:E1}{i:Nat}{n:Int}{xs:List IV}{x:IV}{h2:IH}(ea:a σ h=.ok (.ref i) h1)(eb:b σ h1=.ok (.int n) h2)(g:h2[i]?=Za (.lst xs))(e:atI xs n=Za x):Jc Jk a b σ h=.ok x h2:=by
 rw[binE ea eb]
 exact Jz (xixl g e ⟨rfl,rfl⟩)
theorem gtE {a b:E1}{i j:Int}{h2:IH}(ea:a σ h=.ok (.int i) h1)(eb:b σ h1=.ok (.int j) h2):Jh asB (Jc cGt a b) σ h=.ok (decide (j<i)) h2:=tofE (binE ea eb)
theorem ltE {a b:E1}{i j:Int}{h2:IH}(ea:a σ h=.ok (.int i) h1)(eb:b σ h1=.ok (.int j) h2):Jh asB (Jc cLt a b) σ h=.ok (decide (i<j)) h2:=tofE (binE ea eb)
theorem geE {a b:E1}{i j:Int}{h2:IH}(ea:a σ h=.ok (.int i) h1)(eb:b σ h1=.ok (.int j) h2):Jh asB (Jc cGe a b) σ h=.ok (decide (j<=i)) h2:=tofE (binE ea eb)
theorem eqE {a b:E1}{i j:Int}{h2:IH}(ea:a σ h=.ok (.int i) h1)(eb:b σ h1=.ok (.int j) h2):Jh asB (Jc cEq a b) σ h=.ok (decide (i=j)) h2:=tofE (binE ea eb)
theorem addE {a b:E1}{i j:Int}{h2:IH}(ea:a σ h=.ok (.int i) h1)(eb:b σ h1=.ok (.int j) h2):Jc Jl a b σ h=.ok (.int (i+j)) h2:=binE ea eb
theorem subE {a b:E1}{i j:Int}{h2:IH}(ea:a σ h=.ok (.int i) h1)(eb:b σ h1=.ok (.int j) h2):Jc Qi a b σ h=.ok (.int (i-j)) h2:=binE ea eb
theorem arg3 {a b c:E1}{x y z:IV}{h2 h3:IH}(ea:a σ h=.ok x h1)(eb:b σ h1=.ok y h2)(ec:c σ h2=.ok z h3):Jb a (Jb b (Jb c Jd)) σ h=.ok [x,y,z] h3:=by
 rw[show Jb a (Jb b (Jb c Jd)) σ h=(a σ h).bind λ x h1=>(Jb b (Jb c Jd) σ h1).bind λ xs h2=>.ok (x::xs) h2 from rfl,ea]
 show(Jb b (Jb c Jd) σ h1).bind _=_
 rw[arg2 eb ec]
 rfl
theorem arg4 {a b c d:E1}{x y z u:IV}{h2 h3 h4:IH}(ea:a σ h=.ok x h1)(eb:b σ h1=.ok y h2)(ec:c σ h2=.ok z h3)(ed:d σ h3=.ok u h4):Jb a (Jb b (Jb c (Jb d Jd))) σ h=.ok [x,y,z,u] h4:=by
 rw[show Jb a (Jb b (Jb c (Jb d Jd))) σ h=(a σ h).bind λ x h1=>(Jb b (Jb c (Jb d Jd)) σ h1).bind λ xs h2=>.ok (x::xs) h2 from rfl,ea]
 show(Jb b (Jb c (Jb d Jd)) σ h1).bind _=_
 rw[arg3 eb ec ed]
 rfl
theorem modE {a b:E1}{i j:Int}{h2:IH}(ea:a σ h=.ok (.int i) h1)(eb:b σ h1=.ok (.int j) h2)(l:0<j):Jc J2 a b σ h=.ok (.int (i%j)) h2:=(binE ea eb).trans (Jz (xmod l ⟨rfl,rfl⟩))
theorem JZ {a b:E1}{i j:Int}{h2:IH}(ea:a σ h=.ok (.int i) h1)(eb:b σ h1=.ok (.int j) h2)(l:0<j)(z:j.natAbs.log2<9000):Jc JI a b σ h=.ok (.int (i/j)) h2:=(binE ea eb).trans (Jz (J13 ⟨l,z⟩ ⟨rfl,rfl⟩))
theorem mulE {a b:E1}{i j:Int}{h2:IH}(ea:a σ h=.ok (.int i) h1)(eb:b σ h1=.ok (.int j) h2)(l:Q8 i j):Jc JW a b σ h=.ok (.int (i*j)) h2:=(binE ea eb).trans (Jz (xmul l ⟨rfl,rfl⟩))
theorem lstE {a:A1}{xs:List IV}(ea:a σ h=.ok xs h1)(l:Nat.ble xs.length 1000=Ze):J7 a σ h=.ok (.ref h1.length) (h1++[.lst xs]):=Jz (xlst (Jf ea ⟨Zah (Zeg l) (Zah (by decide) (Zc6 JC)),rfl,rfl⟩))
theorem tupE {a:A1}{xs:List IV}(ea:a σ h=.ok xs h1)(l:Nat.ble xs.length 1000=Ze):eTup a σ h=.ok (.tup xs) h1:=Jz (xtup (Jf ea ⟨Zah (Zeg l) (Zah (by decide) (Zc6 JC)),rfl,rfl⟩))
theorem pkE {a:A1}{b:E1}{n:Int}{xs:List IV}{x:IV}(ea:a σ h=.ok xs h1)(l:Nat.ble xs.length 1000=Ze)(eb:b σ (h1++[.lst xs])=.ok (.int n) (h1++[.lst xs]))(e:atI xs n=Za x):Jc Jk (J7 a) b σ h=.ok x (h1++[.lst xs]):=ixlE (lstE ea l) eb Jw e
theorem minE {a b:E1}{i j:Int}{h2:IH}(ea:a σ h=.ok (.int i) h1)(eb:b σ h1=.ok (.int j) h2):eCB (on2 minI) (Jb a (Jb b Jd)) σ h=.ok (.int (if j<i then j else i)) h2:=cbE (arg2 ea eb)
theorem xifd {t:T1}{a b:S1}{p:Prop}[Decidable p](e:t σ h=.ok (decide p) h1)(x:p->WS (a σ h1) N R)(y:¬p->WS (b σ h1) N R):WS (sIf t a b σ h) N R:=xif (Jf e (xdec x y))
theorem xiff {t:T1}{a b:S1}(e:t σ h=.ok Zj h1)(x:WS (b σ h1) N R):WS (sIf t a b σ h) N R:=xif (Jf e ⟨(λ z=>by cases z),λ _=>x⟩)
theorem xift {t:T1}{a b:S1}(e:t σ h=.ok Ze h1)(x:WS (a σ h1) N R):WS (sIf t a b σ h) N R:=xif (Jf e ⟨λ _=>x,λ z=>by cases z⟩)
theorem xnx {r:SRes}{σ1:ISt}(e:r=.next σ1 h1)(x:N σ1 h1):WS r N R:=by rw[e];exact x
theorem xfor {it:I1}{g:G1}{b:S1}(x:WR (it σ h) λ J h1=>WS (JU J.chk g b J.xs σ h1) N R):WS (sFor it g b σ h) N R:=(Ym ..).mpr x
theorem okc {α:Type}{r:Res α}{c d:α}(e:r=.ok c h)(q:c=d):r=.ok d h:=q▸e
theorem isiE {ans:Ty->Option Bool}{a:E1}{v:IV}{b:Bool}(ea:a σ h=.ok v h1)(t:(tyI v h1).bind ans=Za b):eIsi ans a σ h=.ok (.bl b) h1:=Jz ((Jl0 ..).mpr (Jf ea ⟨b,t,rfl,rfl⟩))
theorem notE {a:T1}{c:Bool}(e:a σ h=.ok c h1):J8 a σ h=.ok (!c) h1:=by unfold J8;rw[e];rfl
theorem truE {a:E1}{c:Bool}(e:a σ h=.ok (.bl c) h1):Jh tru a σ h=.ok c h1:=by unfold Jh;rw[e];rfl
theorem orF {a b:T1}{r:Res Bool}(e:a σ h=.ok Zj h1)(eb:b σ h1=r):tOrI a b σ h=r:=by unfold tOrI;rw[e];exact eb
theorem andT {a b:T1}{r:Res Bool}(e:a σ h=.ok Ze h1)(eb:b σ h1=r):Q3 a b σ h=r:=by unfold Q3;rw[e];exact eb
theorem andF {a b:T1}(e:a σ h=.ok Zj h1):Q3 a b σ h=.ok Zj h1:=by unfold Q3;rw[e];rfl
theorem Jxs {a b:E1}{r:Res IV}(e:a σ h=.ok (.bl Ze) h1)(eb:b σ h1=r):eAnd a b tru σ h=r:=by unfold eAnd;rw[e];exact eb
theorem xrng {e:E1}{g:G1}{b:S1}{n:Nat}(ee:e σ h=.ok (.int (n:Int)) h1)(l:n<1000000)(x:WS (JU (λ _=>True) g b (rngI 0 (n:Int)) σ h1) N R):WS (sFor (iRg JD (Jb e Jd)) g b σ h) N R:=by
 rw[Ym,Ye]
 refine Jf (arg1 ee) ?_
 rw[Yk]
 exact⟨by omega,x⟩
theorem Jyq {a:E1}{i:Nat}{xs:List IV}(ea:a σ h=.ok (.ref i) h1)(g:h1[i]?=Za (.lst xs)):eCB (on1 Qp) (Jb a Jd) σ h=.ok (.ref h1.length) (h1++[.lst xs]):=by
 rw[cbE (arg1 ea)]
 exact Jz ((Jl2 ..).mpr ⟨_,g,rfl,rfl⟩)
theorem Yo {f c:Str}{fs:List (Str×IV)}{i:Nat}{o e:E1}{v:IV}(ev:e σ h=.ok v h1)(eo:o σ h1=.ok (.ref i) h1)(g:h1[i]?=Za (.ins c fs))(l:fs.length<1000)(q:N σ (h1.set i (.ins c (putI f v fs)))):WS (Q0 f o e σ h) N R:=by
 rw[Jku]
 exact Jf ev (Jf eo ⟨i,c,fs,rfl,g,l,q⟩)
theorem J11 {Pg:Pg}{m c:Str}{n i:Nat}{o:E1}{a:A1}{fs:List (Str×IV)}{f:List IV->IH->Res IV}{d:List IV}(e:o σ h=.ok (.ref i) h1)(hi:h1[i]?=Za (.ins c fs))(hf:fs.lookup m=Zb)(hd:Vf Pg m n c=Za (f,d))(x:WR (a σ h1) λ vs h2=>WR (f (.ref i::(vs++d)) h2) P):WR (J1 Pg m n o a σ h) P:=(Qt e hi hf hd).mpr x
theorem Xt {Pg:Pg}{m:Str}{n i:Nat}{o:E1}{a:A1}{xs:List IV}{g:IV->List IV->IH->Res IV}(e:o σ h=.ok (.ref i) h1)(hl:h1[i]?=Za (.lst xs))(hg:bmOf "list" m n=Za g)(x:WR (a σ h1) λ vs h2=>WR (g (.ref i) vs h2) P):WR (J1 Pg m n o a σ h) P:=(Jkq e hl hg).mpr x
theorem xapp {i:Nat}{y:IV}{xs:List IV}(g:h[i]?=Za (.lst xs))(l:xs.length<sizeLine)(q:P .non (h.set i (.lst (xs++[y])))):WR (V5 (.ref i) [y] h) P:=(Jqg ..).mpr ⟨_,g,l,q⟩
theorem xrem {i j:Nat}{k:Int}{ns:List Int}(g:h[i]?=Za (.lst (ns.map .int)))(l:ns.findIdx? (· ==k)=Za j)(q:P .non (h.set i (.lst ((ns.map IV.int).eraseIdx j)))):WR (Xj (.ref i) [.int k] h) P:=by
 have e:XL (.ref i) h=Za (i,ns.map .int):=by unfold XL;simp only[g]
 unfold Xj
 rw[e]
 dsimp only
 rw[Vv]
 dsimp only
 rw[l]
 exact q
theorem Jnv:bmOf "list" "remove" 1=Za Xj:=by kernel_rfl
end
end
section
variable {k:Nat}{h:IH}
theorem Jn1 (ns:List Int)(n:Int)(hn:0<=n):Ja2 (k+1) [.rol (ns.map .int),.int n] h=.ok (.int (ns.getD n.toNat 0)) h:=by
 refine Jz ?_
 rw[Jgs]
 simp! [Jcr,Jcs,Zo,decide_eq_true_eq,decide_eq_false_iff_not]
 refine⟨λ hl=>⟨.int (ns.getD n.toNat 0),Juk hn ?_,rfl⟩,λ hl=>?_⟩
 ·rw[Z0,Z3,Zc (show n.toNat<ns.length by omega)]
  rfl
 ·rw[Z3,Zbc (by omega)]
  rfl
end
section
seal L4.run
section
variable {k:Nat}{h:IH}
theorem Je4 (i:Int):Jcz (k+1) [.int i] h=.ok (.bl Ze) h:=by rw[Jkb];rfl
theorem Jev (i j:Int):QY (k+2) [.int i,.int j] h=.ok (.bl (decide (j<=i))) h:=by
 refine Jz ?_
 rw[Je7]
 simp! [Jbo,Je4]
def IsNm (x:Str):Prop:=1<=x.length/\x.length<=8/\∀c∈x.cps.toList,97<=c/\c<=122
theorem J0i:(Zap "a").cps.toList=[97]:=by decide +kernel
theorem J15:(Zap "z").cps.toList=[122]:=by decide +kernel
theorem Jwk {c:Nat}(hc:97<=c/\c<=122):Jb1 k [Za (.str ⟨#[c]⟩)] h=.ok (.bl Ze) h:=by
 refine Jz ?_
 have h1:¬([c]<[97]):=λ q=>by
  cases q with
  | rel q=>omega
  | cons q=>cases q
 have h2:¬([122]<[c]):=λ q=>by
  cases q with
  | rel q=>omega
  | cons q=>cases q
 simp only[Jb1,Jfl,Qr,Jrh,QW,Jz5,J0i,J15,h1,h2,decide_false,exists_eq_left,exists_eq_left',IV.bl.injEq,IV.int.injEq,IV.ref.injEq,IV.str.injEq,IX.lst.injEq,IV.tup.injEq,ZaI,Zcu,Zcd,reduceCtorEq,eq_self,true_implies,false_implies,implies_true,and_true,true_and,and_false,false_and,Zbw,Zbx,Zag,Yb,XX,Yc,XY,XZ,Ya,Vd,Vc,Vo,Ql,Vn,Vp,Xr,Yf,Vq,Vr,VU,X1,Yj,Yh,Yi]
theorem Jha {x:Str}(hx:IsNm x):WR (Jdh (k+1) [.str x] h) λ v h'=>v=.bl Ze/\Ex h h':=by
 obtain⟨h1,h2,h3⟩:=hx
 have hb:=JC
 have hz:x.length<=sizeLine:=by omega
 have a1:(1:Int)<=x.length:=by omega
 have a2:(x.length:Int)<=8:=by omega
 rw[Jmk]
 simp! [Jfu,Jfv,hz,a1,a2,decide_true]
 refine WR.mono (Qs (xs:=QT x) (chk:=λ _=>True) (f:=λ _=>.bl Ze) (h:=h) ?_ ?_ (λ _ _=>trivial) ?_) ?_
 ·exact⟨rfl,rfl,rfl⟩
 ·have:(QT x).length=x.length:=by simp[QT,Str.length]
  omega
 ·intro v hv h2 _
  obtain⟨c,hc,rfl⟩:=Z6.mp hv
  exact Jf (Jwk (h3 c hc)) ⟨rfl,.refl _⟩
 ·rintro v h' ⟨rfl,g,rfl⟩
  refine Jf (all_map (f:=λ _=>Ze) Jr) ⟨?_,.cons ..⟩
  simp
abbrev Hd:=Str×Int×Int
def tupH (a:Hd):IV:=.tup [.str a.1,.int a.2.1,.int a.2.2]
def HdOk (len:Int)(a:Hd):Prop:=IsNm a.1/\0<=a.2.1/\a.2.1<a.2.2/\a.2.2<len
def Tog (a b:Hd):Prop:=a.2.2<=b.2.1∨b.2.2<=a.2.1∨(a.1≠b.1/\((b.2.1<=a.2.1/\a.2.2<=b.2.2)∨(a.2.1<=b.2.1/\b.2.2<=a.2.2)))
theorem Jmt {a:Hd}{len:Int}(ha:HdOk len a):WR (Jfo (k+3) [tupH a,.int len] h) λ v h'=>v=.bl Ze/\Ex h h':=by
 obtain⟨h1,h2,h3,h4⟩:=ha
 rw[Jmj]
 have h5:a.2.1+1<=a.2.2:=by omega
 simp! [Jfr,Jfs,Jft,tupH,ZC,ZaM,Jev]
 refine⟨λ q=>absurd q (by decide),λ _=>WR.mono (Jha h1) ?_⟩
 rintro v h' ⟨rfl,x⟩
 simp! [decide_eq_true h2,decide_eq_true h4,decide_eq_true h5]
 exact x
theorem Jjg (a b:Hd):Jdc (k+1) [tupH a,tupH b] h=.ok (.bl (decide (a.2.2<=b.2.1)||decide (b.2.2<=a.2.1))) h:=by
 refine Jz ?_
 rw[Ji8]
 simp! [Jdq,tupH]
 cases decide (a.2.2<=b.2.1)<;>simp
theorem Jmv (a b:Hd):Jdi (k+1) [tupH a,tupH b] h=.ok (.bl (decide (b.2.1<=a.2.1)&&decide (a.2.2<=b.2.2))) h:=by
 refine Jz ?_
 rw[Jml]
 simp! [Jfx,tupH]
 cases decide (b.2.1<=a.2.1)<;>simp
theorem Jgu {a b:Hd}(t:Tog a b):Jby (k+2) [tupH a,tupH b] h=.ok (.bl Ze) h:=by
 refine Jz ?_
 rw[Jgr]
 have ix:∀a:Hd,WR (Jk (tupH a) (.int 0) h)=λ P=>P (.str a.1) h:=λ a=>by
  funext P
  simp only[tupH,Xr,exists_eq_left,exists_eq_left',IV.bl.injEq,IV.int.injEq,IV.ref.injEq,IV.str.injEq,IX.lst.injEq,IV.tup.injEq,ZaI,Zcu,Zcd,reduceCtorEq,eq_self,true_implies,false_implies,implies_true,and_true,true_and,and_false,false_and,Zbw,Zbx,Zag,Yb,XX,Yc,XY,XZ,Ya,Vd,Vc,Vo,Ql,Vn,Vp,Xr,Yf,Vq,Vr,VU,X1,Yj,Yh,Yi]
 simp! [Jco,Jcp,Jcq,Jjg,Jmv,ix]
 unfold Tog at t
 simp only[Zaq,ZcX,Zl,Bool.and_eq_false_iff,decide_eq_true_eq,decide_eq_false_iff_not]
 grind
theorem Jko {hs:List Hd}{i:Nat}(hi:h[i]?=Za (.lst (hs.map tupH)))(hl:hs.length<=6)(ht:∀m n (hm:m<n)(hn:n<hs.length),Tog hs[n] hs[m]) :
  WR (Jah (k+3) [.ref i] h) λ v h'=>v=.bl Ze/\Ex h h':=by
 have hb:=JC
 rw[Jeb]
 simp! [Ja6,Ja7,Jwy,hi]
 refine Q6 (λ n σ h'=>(∃a b,σ=[Za (.ref i),a,b])/\Ex h h') (λ n σ h' ⟨_,x⟩=>x.get hi) ?_ ?_ ⟨⟨_,_,rfl⟩,.refl h⟩
 ·rintro n hn _ h' ⟨⟨a,b,rfl⟩,x⟩
  have hn':n<hs.length:=by rw[XG,Zo] at hn;exact hn
  rw[Jux]
  simp! [ZaD,Jz7,J1v,J1w,ZC,ZaM,Ja1]
  have hi':=x.get hi
  refine WR.mono (Qs (xs:=(hs.map tupH).take n) (chk:=λ h2=>h2[h'.length]?=Za (.lst ((hs.map tupH).take n))) (f:=λ _=>.bl Ze) (h:=h'++[.lst ((hs.map tupH).take n)]) ?_ ?_ ?_ ?_) ?_
  ·simp! [Jue,hi',Qk,Jrb,Jw]
  ·simp only[Zad,Zo];omega
  ·exact λ h2 q=>q _ _ Jw
  ·intro v hv h2 q
   obtain⟨j,hj,rfl⟩:=Zan.mp hv
   have hj':j<n:=by simp at hj;omega
   simp! [Zd6,ZaD,Jal,Zs,ZaB,ZS,Zai,ZaS]
   exact Jf (Jgu (ht j n hj' hn')) ⟨rfl,.refl _⟩
  ·rintro v h3 ⟨rfl,g,rfl⟩
   refine Jf (all_map (f:=λ _=>Ze) Jr) ?_
   have:(((hs.map tupH).take n).all λ _=>Ze)=Ze:=by simp
   simp! [this]
   exact⟨⟨_,_,rfl⟩,x.trans ((Ex.one _ _).trans (.cons ..))⟩
 ·rintro _ h' ⟨⟨a,b,rfl⟩,x⟩
  exact x
structure HsOk (len:Int)(hs:List Hd):Prop where
 few:hs.length<=6
 each:∀a∈hs,HdOk len a
 tog:∀m n (hm:m<n)(hn:n<hs.length),Tog hs[n] hs[m]
theorem Jjj {hs:List Hd}{i:Nat}{len:Int}(hi:h[i]?=Za (.lst (hs.map tupH)))(ok:HsOk len hs) :
  WR (Xy (k+4) [.ref i,.int len] h) λ v h'=>v=.tup (hs.map tupH)/\Ex h h':=by
 have hb:=JC
 have hl:=ok.few
 have h6:¬(6:Int)<(hs.length:Int):=by omega
 rw[Ji9]
 simp! [Jdr,Jds,Jdt,Jdu,Xq,isI,Jlv hi,Yg,hi,Zo,h6,decide_false]
 refine WR.mono (Qs (xs:=hs.map tupH) (chk:=λ h2=>h2[i]?=Za (.lst (hs.map tupH))) (f:=λ _=>.bl Ze) (h:=h) ?_ ?_ ?_ ?_) ?_
 ·simp! [Qk,hi]
 ·simp only[Zo];omega
 ·exact λ h2 q=>q _ _ hi
 ·intro v hv h2 q
  obtain⟨a,ha,rfl⟩:=Z6.mp hv
  simp! [Jct,Zs,ZaB,ZS,Zai,ZaS]
  exact Jmt (ok.each a ha)
 ·rintro v h1 ⟨rfl,g,rfl⟩
  refine Jf (all_map (f:=λ _=>Ze) Jr) ?_
  have:((hs.map tupH).all λ _=>Ze)=Ze:=by simp
  simp! [this,Jdv,Jdw]
  have x1:Ex h (h++IX.lst (List.map (λ x=>IV.bl Ze) (hs.map tupH))::g):=.cons ..
  refine WR.mono (Jko (x1.get hi) hl ok.tog) ?_
  rintro v h2 ⟨rfl,x2⟩
  simp! [true_and]
  have hi2:=x2.get (x1.get hi)
  refine WR.mono (Qs (xs:=hs.map tupH) (chk:=λ h3=>h3[i]?=Za (.lst (hs.map tupH))) (f:=λ x=>x) (h:=h2) ?_ ?_ ?_ ?_) ?_
  ·simp! [Qk,hi2]
  ·simp only[Zo];omega
  ·exact λ h2 q=>q _ _ hi2
  ·intro v hv h3 q
   obtain⟨a,ha,rfl⟩:=Z6.mp hv
   simp! [Jcu,tupH,ZC,ZaM]
   exact⟨by omega,.refl _⟩
  ·rintro v h3 ⟨rfl,g3,rfl⟩
   simp only[Jqv,Jr,exists_eq_left,exists_eq_left',IV.bl.injEq,IV.int.injEq,IV.ref.injEq,IV.str.injEq,IX.lst.injEq,IV.tup.injEq,ZaI,Zcu,Zcd,reduceCtorEq,eq_self,true_implies,false_implies,implies_true,and_true,true_and,and_false,false_and,Zbw,Zbx,Zag,Yb,XX,Yc,XY,XZ,Ya,Vd,Vc,Vo,Ql,Vn,Vp,Xr,Yf,Vq,Vr,VU,X1,Yj,Yh,Yi,List.map_id']
   exact x1.trans (x2.trans (.cons ..))
theorem Jm3 {due gap:Int}(h1:1<=due)(h2:due<=gap):Xx (k+3) [.int due,.int gap] h=.ok (.int due) h:=by
 refine Jz ?_
 rw[Jmm]
 have:¬gap<due:=by omega
 simp! [Jfy,Jfz,Jf0,Xq,isI,Jev,decide_eq_true h1,decide_eq_false this]
def wfs (name:Str)(gap len due late:Int)(hs:List IV):List (Str×IV):=[("name",.str name),("gap",.int gap),("length",.int len),("due",.int due),("late",.int late),("hold_tuples",.tup hs)]
section
variable (a b c d e f:IV)
theorem put0:putI "name" a ([]:List (Str×IV))=([("name",a)]:List (Str×IV)):=by kernel_rfl
theorem put1:putI "gap" b ([("name",a)]:List (Str×IV))=([("name",a),("gap",b)]:List (Str×IV)):=by kernel_rfl
theorem put2:putI "length" c ([("name",a),("gap",b)]:List (Str×IV))=([("name",a),("gap",b),("length",c)]:List (Str×IV)):=by kernel_rfl
theorem put3:putI "due" d ([("name",a),("gap",b),("length",c)]:List (Str×IV))=([("name",a),("gap",b),("length",c),("due",d)]:List (Str×IV)):=by kernel_rfl
theorem put4:putI "late" e ([("name",a),("gap",b),("length",c),("due",d)]:List (Str×IV))=([("name",a),("gap",b),("length",c),("due",d),("late",e)]:List (Str×IV)):=by kernel_rfl
theorem put5:putI "hold_tuples" f ([("name",a),("gap",b),("length",c),("due",d),("late",e)]:List (Str×IV))=([("name",a),("gap",b),("length",c),("due",d),("late",e),("hold_tuples",f)]:List (Str×IV)):=by kernel_rfl
variable {name:Str}{gap len due late:Int}{hs:List IV}
theorem fl0:(wfs name gap len due late hs).lookup ("name":Str)=Za (.str name):=by kernel_rfl
theorem fl1:(wfs name gap len due late hs).lookup ("gap":Str)=Za (.int gap):=by kernel_rfl
theorem fl2:(wfs name gap len due late hs).lookup ("length":Str)=Za (.int len):=by kernel_rfl
theorem fl3:(wfs name gap len due late hs).lookup ("due":Str)=Za (.int due):=by kernel_rfl
theorem fl4:(wfs name gap len due late hs).lookup ("late":Str)=Za (.int late):=by kernel_rfl
theorem fl5:(wfs name gap len due late hs).lookup ("hold_tuples":Str)=Za (.tup hs):=by kernel_rfl
theorem flh:(wfs name gap len due late hs).lookup ("held":Str)=Zb:=by kernel_rfl
end
theorem Jqd {name:Str}{gap len due late:Int}{dv hv:IV}{hs:List IV}{w:Nat}(hw:h[w]?=Za (.ins "Work" []))(hn:IsNm name)(hg:1<=gap)(hl:1<=len)(ht:0<=late)
  (hd:∀h1,Xx (k+4) [dv,.int gap] h1=.ok (.int due) h1)(hh:∀h1:IH,(∀(j:Nat)(o:IX),j≠w->h[j]?=Za o->h1[j]?=Za o)->WR (Xy (k+4) [hv,.int len] h1) λ v h2=>v=.tup hs/\Ex h1 h2) :
  WR (Jbx (k+5) [.ref w,.str name,.int gap,.int len,dv,.int late,hv] h) λ v h'=>v=.non/\∃g,h'=h.set w (.ins "Work" (wfs name gap len due late hs))++g:=by
 rw[Ji6]
 refine xfin (xseq (xif (xb (xb (xb (Jf (arg1 rfl) (WR.mono (Jha hn) ?_)))))))
 rintro v h1 ⟨rfl,g1,rfl⟩
 have lw:=Vi hw
 have s1:∀{o:IX},(h++g1).set w o=h.set w o++g1:=by intro o;rw[Zbj (h:=lw)]
 have at1:∀{o:IX},(h.set w o++g1)[w]?=Za o:=by
  intro o
  rw[Z7 (by rw[Zdc];exact lw),ZX lw]
 have s2:∀{o o':IX},(h.set w o++g1).set w o'=h.set w o'++g1:=by intro o o';rw[Zbj (h:=by rw[Zdc];exact lw),List.set_set]
 have ok:∀{σ:ISt}{e1 e2:E1}{a b:Int}{hh:IH},e1 σ hh=.ok (.int a) hh->e2 σ hh=.ok (.int b) hh->b<=a->J8 (Jh tru (Jn (QY (k+4)) [] (Jb e1 (Jb e2 Jd)))) σ hh=.ok Zj hh:=λ h1 h2 l=>okc (notE (truE (X5 (arg2 h1 h2) (Jev _ _)))) (by rw[decide_eq_true l];rfl)
 refine Jf rfl (Jf rfl ⟨(λ z=>by cases z),λ _=>xnil (xseq (xiff (ok rfl rfl hg) (xnil (xseq (xiff (ok rfl rfl hl) (xnil (xseq (xiff (ok rfl rfl ht) (xnil (xseq (Yo rfl rfl (grow hw) (by decide) ?_)))))))))))⟩)
 rw[s1,put0]
 refine xseq (Yo rfl rfl at1 (by show(1:Nat)<1000;decide) ?_)
 rw[s2,put1]
 refine xseq (Yo rfl rfl at1 (by show(2:Nat)<1000;decide) ?_)
 rw[s2,put2]
 refine xseq (Yo (X5 (arg2 rfl rfl) (hd _)) rfl at1 (by show(3:Nat)<1000;decide) ?_)
 rw[s2,put3]
 refine xseq (Yo rfl rfl at1 (by show(4:Nat)<1000;decide) ?_)
 rw[s2,put4]
 unfold Jdp
 rw[Jku]
 refine xb (Jf (arg2 rfl rfl) (WR.mono (hh _ λ j o hj e=>?_) ?_))
 ·refine grow ?_
  rw[ZZ (ZW hj)]
  exact e
 ·rintro v h2 ⟨rfl,g2,rfl⟩
  refine Jf rfl ⟨w,_,_,rfl,grow at1,by show(5:Nat)<1000;decide,rfl,g1++g2,?_⟩
  rw[Zbj (h:=Vi at1),s2,put5,ZF]
  rfl
theorem Jvt {name:Str}{gap len due late:Int}{dv hv:IV}{hs:List IV}(hn:IsNm name)(hg:1<=gap)(hl:1<=len)(ht:0<=late)
  (hd:∀h1,Xx (k+4) [dv,.int gap] h1=.ok (.int due) h1)(hh:∀h1:IH,(∀(j:Nat)(o:IX),h[j]?=Za o->h1[j]?=Za o)->WR (Xy (k+4) [hv,.int len] h1) λ v h2=>v=.tup hs/\Ex h1 h2) :
  WR (Jbx (k+5) [.ref h.length,.str name,.int gap,.int len,dv,.int late,hv] (h++[.ins "Work" []])) λ v h'=>v=.non/\∃g,h'=h++.ins "Work" (wfs name gap len due late hs)::g:=by
 refine WR.mono (Jqd Jw hn hg hl ht hd λ h1 q=>hh h1 λ j o e=>q j o (by have:=Vi e;omega) (grow e)) ?_
 rintro v h' ⟨rfl,g,rfl⟩
 exact⟨rfl,g,by rw[Jkm];simp⟩
end
end
section
variable {k:Nat}{h:IH}
theorem Jj1 {name:Str}{gap len due late:Int}{hs:List IV}{w:Nat}(hw:h[w]?=Za (.ins "Work" (wfs name gap len due late hs))):Jdb (k+1) [.ref w] h=.ok (.ref h.length) (h++[.lst hs]):=by
 refine Jz ?_
 rw[Ji5]
 simp! [Jdo,JB hw,fl5]
end
structure WD where
 name:Str
 gap:Int
 len:Int
 due:Int
 late:Int
def IsW (h:IH)(v:IV)(d:WD):Prop:=∃i hs,v=.ref i/\h[i]?=Za (.ins "Work" (wfs d.name d.gap d.len d.due d.late hs))
theorem IsW.kp {h h':IH}{v:IV}{d:WD}(k:Kp h h')(w:IsW h v d):IsW h' v d:=by
 obtain⟨i,hs,e,q⟩:=w
 exact⟨i,hs,e,k _ _ q⟩
structure AllW (h:IH)(vs:List IV)(ds:List WD):Prop where
 len:vs.length=ds.length
 at_:∀(i:Nat) v d,vs[i]?=Za v->ds[i]?=Za d->IsW h v d
theorem AllW.kp {h h':IH}{vs:List IV}{ds:List WD}(k:Kp h h')(w:AllW h vs ds):AllW h' vs ds:=⟨w.len,λ i v d a b=>(w.at_ i v d a b).kp k⟩
theorem AllW.of {h:IH}{vs:List IV}{ds:List WD}(w:AllW h vs ds){v:IV}(hv:v∈vs):∃d∈ds,IsW h v d:=by
 obtain⟨i,hi,rfl⟩:=Zan.mp hv
 have hi':i<ds.length:=by rw[<- w.len];exact hi
 exact⟨ds[i],ZR hi',w.at_ i _ _ (Zc hi) (Zc hi')⟩
def fOf (f:Str)(h:IH)(v:IV):IV:=(QC f v h).getD .non
theorem AllW.mapF {h:IH}{vs:List IV}{ds:List WD}(w:AllW h vs ds){F:IV->IV}{g:WD->IV}(hf:∀(i:Nat) (d:WD) hs,h[i]?=Za (.ins "Work" (wfs d.name d.gap d.len d.due d.late hs))->F (.ref i)=g d):vs.map F=ds.map g:=by
 refine ZbY λ i=>?_
 rw[Z0,Z0]
 by_cases hi:i<vs.length
 ·have hi':i<ds.length:=by rw[<- w.len];exact hi
  rw[Zc hi,Zc hi']
  obtain⟨j,hs,e,q⟩:=w.at_ i _ _ (Zc hi) (Zc hi')
  simp only[Zbz,ZaI]
  rw[e,hf j _ hs q]
 ·have hi':¬i<ds.length:=by rw[<- w.len];exact hi
  rw[Zbc (by omega),Zbc (by omega)]
  rfl
section
variable {k:Nat}{h:IH}
theorem Jsm:Jth ["Work"] (.ins "Work")=Za Ze:=by kernel_rfl
theorem Jjk {vs:List IV}{ds:List WD}{i:Nat}(hi:h[i]?=Za (.lst vs))(w:AllW h vs ds)(nd:(ds.map (·.name)).Nodup)(hl:ds.length<=20) :
  WR (Jdd (k+1) [.ref i] h) λ v h'=>v=.tup vs/\Ex h h':=by
 have hb:=JC
 have wl:=w.len
 rw[Jja]
 simp! [Jdx,Jdy,Jlv hi]
 refine WR.mono (Qs (h:=h) (xs:=vs) (chk:=λ h'=>h'[i]?=Za (.lst vs)) (f:=λ _=>.bl Ze) ?_ (by omega) (λ h2 q=>q _ _ hi) ?_) ?_
 ·simp! [Qk,hi]
 ·intro v hv h2 q
  obtain⟨d,_,j,hs,rfl,e⟩:=w.of hv
  have ty:tyI (.ref j) h2=Za (.ins "Work"):=by simp[tyI,q _ _ e]
  simp! [Jcv,ty,Jsm]
  exact .refl _
 ·rintro _ _ ⟨rfl,g,rfl⟩
  have x1:Ex h (h++IX.lst (vs.map λ _=>.bl Ze)::g):=.cons _ _ _
  rw[all_map (f:=λ _=>Ze) Jr]
  generalize h++IX.lst (vs.map λ _=>.bl Ze)::g=h1 at x1
  have at1:(vs.all λ _=>Ze)=Ze:=by simp
  simp! [at1,Jdz,Jqo]
  have w1:=w.kp x1.kp
  have nm:=w1.mapF (F:=fOf "name" h1) (g:=λ d=>.str d.name) λ j d hs e=>by rw[fOf,JB e,fl0];rfl
  refine WR.mono (Qs (h:=h1) (xs:=vs) (chk:=λ h'=>h'[i]?=Za (.lst vs)) (f:=fOf "name" h1) ?_ (by omega) (λ h2 q=>q _ _ (x1.get hi)) ?_) ?_
  ·simp! [Qk,x1.get hi]
  ·intro v hv h2 q
   obtain⟨d,_,j,hs,rfl,e⟩:=w1.of hv
   simp! [Jcw,JB (q _ _ e),fl0,fOf,JB e,Zcj]
   exact .refl _
  ·rintro _ _ ⟨rfl,g2,rfl⟩
   rw[nm]
   have em:ds.map (λ d=>IV.str d.name)=(ds.map (·.name)).map IV.str:=by simp
   rw[em]
   have x2:Ex h1 (h1++IX.lst ((ds.map (·.name)).map IV.str)::g2):=.cons _ _ _
   refine⟨_,rfl,_,Jr,ds.map (·.name),Jlr _,by rw[Zo];unfold Zch;omega,?_⟩
   rw[Jix nd _ (Zr _)]
   simp! [Yg,x2.get (x1.get hi),Zo,wl,decide_true,Jd0,Jqv]
   exact x1.trans x2
def rup (top bottom:Int):Int:=(top+bottom-1)/bottom
def topD (ds:List WD):Int:=if ds.map (·.due)=[] then 0 else JM (λ i=>(ds.map (·.due)).getD i 0) (ds.map (·.due)).length
def Jk5 (ds:List WD):Int:=(ds.map λ d=>rup (topD ds+d.late) d.gap).sum
def rOf (T:Int)(h:IH)(v:IV):IV:=match QC "late" v h,QC "gap" v h with
 | some (.int l),Za (.int g)=>.int (rup (T+l) g)
 | _,_=>.non
theorem Jjn {a b:Int}(hb:0<b)(hl:b.natAbs.log2<9000):Jb0 (k+1) [.int a,.int b] h=.ok (.int (rup a b)) h:=by
 refine Jz ?_
 rw[Jjb]
 simp! [Jd1,hb,hl,rup]
theorem Jq9 {vs:List IV}{ds:List WD}(w:AllW h vs ds)(hl:ds.length<=20)(hg:∀d∈ds,0<d.gap/\d.gap.natAbs.log2<9000) :
  WR (Jej (k+2) [.tup vs] h) λ v h'=>v=.int (Jk5 ds)/\Ex h h':=by
 have hb:=JC
 have wl:=w.len
 rw[Jka]
 simp! [Jez,Jw8]
 have dm:=w.mapF (F:=fOf "due" h) (g:=λ d=>.int d.due) λ j d hs e=>by rw[fOf,JB e,fl3];rfl
 refine WR.mono (Qs (h:=h) (xs:=vs) (chk:=λ _=>True) (f:=fOf "due" h) ?_ (by omega) (λ _ _=>trivial) ?_) ?_
 ·simp! [true_and]
 ·intro v hv h2 q
  obtain⟨d,_,j,hs,rfl,e⟩:=w.of hv
  simp! [Jc7,JB (q _ _ e),fl3,fOf,JB e,Zcj]
  exact .refl _
 ·rintro _ _ ⟨rfl,g,rfl⟩
  rw[dm]
  have em:ds.map (λ d=>IV.int d.due)=(ds.map (·.due)).map IV.int:=by simp
  rw[em]
  have x1:Ex h (h++IX.lst ((ds.map (·.due)).map IV.int)::g):=.cons _ _ _
  refine⟨_,rfl,_,Jr,_,Vv _,?_⟩
  have et:maxD (ds.map (·.due)) (.int 0)=.int (topD ds):=by
   unfold maxD topD
   split<;>rfl
  rw[et]
  generalize h++IX.lst ((ds.map (·.due)).map IV.int)::g=h1 at x1
  have w1:=w.kp x1.kp
  simp! [Je0]
  have rm:=w1.mapF (F:=rOf (topD ds) h1) (g:=λ d=>.int (rup (topD ds+d.late) d.gap)) λ j d hs e=>by rw[rOf,JB e,JB e,fl4,fl1]
  refine WR.mono (Qs (h:=h1) (xs:=vs) (chk:=λ _=>True) (f:=rOf (topD ds) h1) ?_ (by omega) (λ _ _=>trivial) ?_) ?_
  ·simp! [true_and]
  ·intro v hv h2 q
   obtain⟨d,hd,j,hs,rfl,e⟩:=w1.of hv
   have e2:=q _ _ e
   simp only[Zs,ZaB,ZS,Zai,ZaS]
   simp! [Jc8,JB e2,fl4,fl1,Jjn (hg d hd).1 (hg d hd).2]
   exact⟨by rw[rOf,JB e,JB e,fl4,fl1],.refl _⟩
  ·rintro _ _ ⟨rfl,g2,rfl⟩
   rw[rm]
   have em2:ds.map (λ d=>IV.int (rup (topD ds+d.late) d.gap))=(ds.map λ d=>rup (topD ds+d.late) d.gap).map IV.int:=by simp
   rw[em2]
   simp! [Jks,Jr,Vv]
   exact⟨rfl,x1.trans (.cons _ _ _)⟩
abbrev dfs (vs:List IV):List (Str×IV):=[("works",.tup vs)]
theorem dp0 {a:IV}:putI "works" a ([]:List (Str×IV))=([("works",a)]:List (Str×IV)):=by kernel_rfl
theorem dl0 {a:IV}:(([("works",a)]:List (Str×IV))).lookup ("works":Str)=Za a:=by kernel_rfl
theorem dlw {a:IV}:(([("works",a)]:List (Str×IV))).lookup ("work":Str)=Zb:=by kernel_rfl
theorem Jn8 {vs:List IV}{ds:List WD}{i:Nat}(hi:h[i]?=Za (.lst vs))(w:AllW h vs ds)(nd:(ds.map (·.name)).Nodup)(hl:ds.length<=12)(hg:∀d∈ds,0<d.gap/\d.gap.natAbs.log2<9000)(hc:Jk5 ds<=80) :
  WR (QX (k+3) [.ref h.length,.ref i] (h++[.ins "Duty" []])) λ v h'=>v=.non/\∃g,h'=h++.ins "Duty" (dfs vs)::g:=by
 have wl:=w.len
 rw[Ji2]
 simp! [Jdj,Jku]
 refine WR.mono (Jjk (grow hi) (w.kp (Ex.one h _).kp) nd (by omega)) ?_
 rintro _ _ ⟨rfl,g1,rfl⟩
 refine⟨_,_,_,rfl,grow Jw,by decide,?_⟩
 rw[dp0,ZF,ZH,Za9,V0]
 simp! [Jdk,JB (Jr (h:=h)),dl0,wl]
 refine⟨λ q=>?_,λ _=>?_⟩
 ·rw[decide_eq_true_eq] at q
  omega
 simp! [Jdl,JB (Jr (h:=h)),dl0]
 refine WR.mono (Jq9 (w.kp (Ex.cons h _ _).kp) (by omega) hg) ?_
 rintro _ _ ⟨rfl,g2,rfl⟩
 simp! [true_and]
 refine⟨λ q=>?_,λ _=>⟨g1++g2,by simp⟩⟩
 rw[decide_eq_true_eq] at q
 omega
theorem XB {vs:List IV}{D:Nat}{n:Int}{x:IV}(hD:h[D]?=Za (.ins "Duty" (dfs vs)))(hx:atI vs n=Za x):Jda (k+1) [.ref D,.int n] h=.ok x h:=by
 refine Jz ?_
 rw[Ji4]
 simp! [Jdn,JB hD,dl0,hx]
end
section
seal L4.run L4.WS
section
variable {k:Nat}{h:IH}
theorem e45 (σ:ISt)(h:IH):Jc JK (eC (.int 10)) (eC (.int 45)) σ h=.ok (.int (10^45)) h:=Jz (by
 rw[Vl,Qr,Qr,VO]
 exact⟨by decide,rfl,rfl⟩)
theorem e30 (σ:ISt)(h:IH):Jc JK (eC (.int 10)) (eC (.int 30)) σ h=.ok (.int (10^30)) h:=Jz (by
 rw[Vl,Qr,Qr,VO]
 exact⟨by decide,rfl,rfl⟩)
theorem e18 (σ:ISt)(h:IH):Jc Jl (Jc JK (eC (.int 10)) (eC (.int 18))) (eC (.int 9)) σ h=.ok (.int 1000000000000000009) h:=Jz (by
 rw[Vl,Vl,Qr,Qr,VO]
 refine⟨by decide,?_⟩
 rw[Qr,Jly]
 exact⟨congrArg IV.int (by decide +kernel),rfl⟩)
theorem Jpy (c:Int)(m:Nat)(hm:m<=40):WR (Jcn (k+1) [.int c,.int m] h) λ v h'=>∃(i:Nat)(xs:List Int),v=.ref i/\h.length<=i/\h'[i]?=Za (.lst (xs.map .int))/\xs.length=m/\(∀x∈xs,(0:Int)<=x/\x<10^45)/\Ex h h':=by
 have hb:=JC
 have p45:(0:Int)<10^45:=by decide +kernel
 have le:(1000000000000000009:Int)<=10^45:=by decide +kernel
 obtain⟨T,eT⟩:∃T:Int,∀σ h,Jc JK (eC (.int 10)) (eC (.int 30)) σ h=.ok (.int T) h:=⟨_,e30⟩
 obtain⟨G,eG,gG⟩:∃G:Int,(∀σ h,Jc Jl (Jc JK (eC (.int 10)) (eC (.int 18))) (eC (.int 9)) σ h=.ok (.int G) h)/\G=1000000000000000009:=⟨_,e18,rfl⟩
 obtain⟨F,eF,F0,Fl,Fe⟩:∃F:Int,(∀σ h,Jc JK (eC (.int 10)) (eC (.int 45)) σ h=.ok (.int F) h)/\0<F/\F.natAbs.log2<9000/\F=10^45:=⟨_,e45,p45,by decide +kernel,rfl⟩
 rw[<- Fe] at le ⊢
 clear Fe p45
 rw[Jht]
 refine xfin (xseq (xset (Jf (lstE rfl rfl) (xseq (xifd (geE rfl (eT _ _)) (λ _=>xseq (xset (Jf (subE rfl (eT _ _)) (xseq (xrng rfl (by omega) ?_))))) λ _=>xnil (xseq (xset (Jf (addE (modE rfl (eG _ _) (by omega)) rfl) (xseq (xrng (n:=m+2) (okc (addE rfl rfl) rfl) (by omega) ?_))))))))))
 ·refine Q6 (λ n σ h'=>∃xs rest a b,h'=h++[.lst (xs.map IV.int)]/\σ=[Za (.int c),Za (.int (m:Int)),Za (.ref h.length),Za (.int rest),a,b]/\xs.length=n/\∀x∈xs,(0:Int)<=x/\x<F)
   (λ _ _ _ _=>trivial) ?_ ?_ ⟨[],_,_,_,rfl,rfl,rfl,by simp⟩
  ·rintro n hn _ _ ⟨xs,rest,a,b,rfl,rfl,lx,hx⟩
   rw[Qa] at hn
   have e1:=ZaO rest (b:=F) (by omega)
   have e2:=Zay rest F0
   refine xnx rfl (xseq (Yn (Xt rfl Jw X3 (Jf (arg1 (modE rfl (eF _ _) F0)) (xapp Jw (by rw[Zo];omega) (xset (Jf (JZ rfl (eF _ _) F0 Fl) ⟨xs++[rest%F],_,_,_,?_,rfl,by simp[lx],λ x hxx=>?_⟩)))))))
   ·rw[Jkm]
    simp
   ·rw[ZO,ZI] at hxx
    rcases hxx with hxx|rfl
    ·exact hx x hxx
    ·exact⟨e1,e2⟩
  ·rintro _ _ ⟨xs,rest,a,b,rfl,rfl,lx,hx⟩
   rw[Qa] at lx
   exact xret (Jf rfl ⟨_,xs,rfl,Zr _,Jw,by omega,hx,.one _ _⟩)
 ·have s0:=ZaO c (b:=G) (by omega)
  have s1:=Zay c (b:=G) (by omega)
  refine Q6 (λ n σ h'=>∃xs num a b,h'=h++[.lst (xs.map IV.int)]/\σ=[Za (.int c),Za (.int (m:Int)),Za (.ref h.length),a,b,Za (.int num)]/\(0<=num/\num<2000000000000000000)/\xs.length=n/\∀x∈xs,(0:Int)<=x/\x<G)
   (λ _ _ _ _=>trivial) ?_ ?_ ⟨[],_,_,_,rfl,rfl,by omega,rfl,by simp⟩
  ·rintro n hn _ _ ⟨xs,num,a,b,rfl,rfl,hnum,lx,hx⟩
   rw[VF]
   rw[Qa] at hn
   have e1:=ZaO (num*num+48271*num+(0+(n:Int))) (b:=G) (by omega)
   have e2:=Zay (num*num+48271*num+(0+(n:Int))) (b:=G) (by omega)
   refine xnx rfl (xseq (xset (Jf (modE (addE (addE (mulE rfl rfl (.inl (by omega))) (mulE rfl rfl (.inl (by decide)))) rfl) (eG _ _) (by omega)) (Yn (Xt rfl Jw X3 (Jf (arg1 rfl) (xapp Jw (by rw[Zo];omega) ⟨xs++[(num*num+48271*num+(0+(n:Int)))%G],_,_,_,?_,rfl,by omega,by simp[lx],λ x hxx=>?_⟩)))))))
   ·rw[Jkm]
    simp
   ·rw[ZO,ZI] at hxx
    rcases hxx with hxx|rfl
    ·exact hx x hxx
    ·exact⟨e1,e2⟩
  ·rintro _ _ ⟨xs,num,a,b,rfl,rfl,hnum,lx,hx⟩
   rw[Qa] at lx
   refine xret ((Yl ..).mpr (Jf rfl (Jf rfl (Jf rfl ((Jue ..).mpr ⟨_,Jw,?_⟩)))))
   rw[show(Za (2:Int))=Za ((2:Nat):Int) from rfl,Jra,<-Zew]
   refine⟨_,xs.drop 2,rfl,by simp,Jw,by simp;omega,λ x hxx=>?_,(Ex.one _ _).trans (.one _ _)⟩
   have:=hx x (ZcZ hxx)
   omega
end
end
theorem Jr8 {a b K:Nat}(h:a<=b)(hb:b.log2<K):a.log2<K:=by
 by_cases ha:a=0
 ·subst ha
  exact Nat.lt_of_le_of_lt (Zal _) hb
 ·have hb0:b≠0:=by omega
  rw[Nat.log2_lt ha]
  exact Nat.lt_of_le_of_lt h ((Nat.log2_lt hb0).mp hb)
theorem Jo7 {x:Int}(h0:0<=x)(h:x<=10^60):x.natAbs.log2<9000:=by
 refine Jr8 (b:=10^60) ?_ (by decide +kernel)
 have e:((10^60:Nat):Int)=10^60:=by decide +kernel
 generalize (10^60:Int)=y at *
 generalize (10^60:Nat)=z at *
 omega
theorem half {a b g:Int}(h:0<g):0<=a%2*(b%g)/\a%2*(b%g)<g:=by
 have b1:=ZaO b (b:=g) (by omega)
 have b2:=Zay b h
 have:a%2=0∨a%2=1:=by omega
 rcases this with e|e<;>rw[e]
 ·omega
 ·omega
theorem Jt2 {a b m:Int}(hb:0<b)(h:a<=m*b):rup a b<=m:=by
 unfold rup
 have:(a+b-1)/b<m+1:=by
  rw[Int.ediv_lt_iff_lt_mul hb,Int.add_mul]
  omega
 omega
theorem Jp1 (m:Int):∀l:List Int,(∀x∈l,x<=m)->l.sum<=l.length*m
 | [],_=>by simp
 | x::l,q=>by
  have:=Jp1 m l λ y hy=>q y (Zt _ hy)
  have:=q x (Zv ..)
  rw[Zbh,ZC,Int.natCast_add,Int.add_mul]
  simp
  omega
theorem Jo9 {h:IH}(n:Nat):∀as:List Int,(as.map IV.int).mapM (toD h n)=Za (as.map Zce)
 | []=>rfl
 | a::as=>by
  have e:toD h n (IV.int a)=Za (.int a):=by cases n<;>rfl
  rw[Zs,Zdu,e,Jo9 n as]
  rfl
theorem Jnx:∀as:List Int,Zau (as.map Zce)=Ze
 | []=>by rw[ZaB,Zau]
 | a::as=>by
  rw[Zs,Zau,Zbk,Jnx as]
  rfl
theorem J0q (as:List Int):ZaP (.list (as.map Zce)) (.list [])=as.isEmpty:=by
 rw[ZaP]
 cases as with
 | nil=>rw[ZaB,ZcW];rfl
 | cons a as=>rw[Zs,ZcW];rfl;all_goals intros;simp_all
abbrev t5 (r:WD×Int):IV:=.tup [.int r.1.gap,.int r.1.len,.int r.1.due,.int r.1.late,.int r.2]
def Gaps (ds:List WD):Prop:=∀d∈ds,0<d.gap/\d.gap.natAbs.log2<9000/\d.len.natAbs<2^64
def Good (ds:List WD):Prop:=Gaps ds/\∀d∈ds,1<=d.due/\0<=d.late
theorem AllW.swap {h g:IH}{vs ys:List IV}{xs:List IV}{ds:List WD}(w:AllW (h++IX.lst ys::g) vs ds):AllW (h++IX.lst xs::g) vs ds:=by
 refine⟨w.len,λ i v d a b=>?_⟩
 obtain⟨j,hs,e,q⟩:=w.at_ i v d a b
 refine⟨j,hs,e,?_⟩
 by_cases hj:j=h.length
 ·subst hj
  rw[Jr] at q
  cases q
 ·by_cases hl:j<h.length
  ·rw[Z7 hl] at q ⊢
   exact q
  ·rw[Zu (by omega)] at q ⊢
   obtain⟨n,hn⟩:∃n,j-h.length=n+1:=⟨j-h.length-1,by omega⟩
   rw[hn] at q ⊢
   exact q
theorem AllW.snoc {h:IH}{vs:List IV}{ds:List WD}{v:IV}{d:WD}(w:AllW h vs ds)(x:IsW h v d):AllW h (vs++[v]) (ds++[d]):=by
 have wl:=w.len
 refine⟨by simp[wl],λ i u e a b=>?_⟩
 by_cases hi:i<vs.length
 ·rw[Z7 hi] at a
  rw[Z7 (by omega)] at b
  exact w.at_ i u e a b
 ·rw[Zu (by omega)] at a
  rw[Zu (by omega)] at b
  have ei:i-vs.length=0:=by
   by_cases q:i-vs.length=0
   ·exact q
   ·obtain⟨n,hn⟩:∃n,i-vs.length=n+1:=⟨i-vs.length-1,by omega⟩
    rw[hn] at a
    cases a
  rw[ei] at a
  rw[<- wl,ei] at b
  cases a
  cases b
  exact x
abbrev s9 (S W:Nat)(a b c d e f o:Option IV):ISt:=[Za (.ref S),Za (.ref W),a,b,c,d,e,f,o]
section
variable {k:Nat}{h:IH}
theorem Jus {v:IV}{as:List Int}{j:Nat}(hv:toD h 6 v=Za (.list (as.map Zce)))(hj:h[j]?=Za (.lst [])):QA v (.ref j) h=Za as.isEmpty:=by
 have e2:toD h 6 (.ref j)=Za (.list []):=by
  show(match h[j]? with|some (.lst xs)=>(xs.mapM (toD h 5)).map ZbL|_=>Zb)=_
  rw[hj]
  rfl
 unfold QA
 rw[hv,e2]
 dsimp only
 rw[if_pos ⟨by rw[Zbk];exact Jnx as,by rw[Zbk,Zau]⟩,J0q]
theorem Jhc {as:List Int}{i j:Nat}(hi:h[i]?=Za (.lst (as.map .int)))(hj:h[j]?=Za (.lst [])):cEq (.ref i) (.ref j) h=.ok (.bl as.isEmpty) h:=by
 have e1:toD h 6 (.ref i)=Za (.list (as.map Zce)):=by
  show(match h[i]? with|some (.lst xs)=>(xs.mapM (toD h 5)).map ZbL|_=>Zb)=_
  rw[hi]
  show((as.map IV.int).mapM (toD h 5)).map ZbL=_
  rw[Jo9];rfl
 unfold cEq
 have e4:Vz (.ref i) (.ref j)=Zb:=rfl
 rw[e4]
 dsimp only
 rw[Jus e1 hj]
mutual
theorem Jlc:∀d:ZdC,d.canLay0=Ze->ZaP d d=Ze
 | .none,_=>by simp[ZaP]
 | .bool _,_=>by simp[ZaP]
 | .int _,_=>by simp[ZaP]
 | .str _,_=>by simp[ZaP]
 | .list xs,q=>by
  rw[ZaP]
  exact Jf6 xs (by rw[Zbk] at q;exact q)
 | .tuple xs,q=>by
  rw[ZaP]
  exact Jf6 xs (by rw[Zbk] at q;exact q)
 | .dict _,q=>by rw[Zbk] at q;cases q
theorem Jf6:∀ds:List ZdC,Zau ds=Ze->ZcW ds ds=Ze
 | [],_=>by rw[ZcW]
 | d::ds,q=>by
  rw[Zau,Zl] at q
  rw[ZcW,Jlc d q.1,Jf6 ds q.2]
  rfl
end
theorem Jyu {i j:Nat}{d:ZdC}(hi:toD h 6 (.ref i)=Za d)(hj:toD h 6 (.ref j)=Za d)(q:d.canLay0=Ze):cNe (.ref i) (.ref j) h=.ok (.bl Zj) h:=by
 have e3:QA (.ref i) (.ref j) h=Za Ze:=by
  unfold QA
  rw[hi,hj]
  dsimp only
  rw[if_pos ⟨q,q⟩,Jlc d q]
 unfold cNe
 have e4:Vz (.ref i) (.ref j)=Zb:=rfl
 rw[e4]
 dsimp only
 rw[e3]
 rfl
theorem Jp4 {i n:Nat}{xs:List IV}(e:h[i]?=Za (.lst xs)):toD h (n+1) (.ref i)=(xs.mapM (toD h n)).map ZbL:=by
 show(match h[i]? with|some (.lst xs)=>(xs.mapM (toD h n)).map ZbL|_=>Zb)=_
 rw[e]
end
abbrev RH:=WD×List Hd
abbrev t5h (r:RH)(q:Nat):IV:=.tup [.int r.1.gap,.int r.1.len,.int r.1.due,.int r.1.late,.ref q]
structure RowsH (h:IH)(ys:List IV)(rs:List RH):Prop where
 len:ys.length=rs.length
 at_:∀(i:Nat) y r,ys[i]?=Za y->rs[i]?=Za r->∃q,y=t5h r q/\h[q]?=Za (.lst (r.2.map tupH))
theorem RowsH.kp {h h':IH}{ys:List IV}{rs:List RH}(k:Kp h h')(w:RowsH h ys rs):RowsH h' ys rs:=⟨w.len,λ i y r a b=>let ⟨q,e,g⟩:=w.at_ i y r a b;⟨q,e,k _ _ g⟩⟩
def IsH (h:IH)(v:IV)(r:RH):Prop:=∃j,v=.ref j/\h[j]?=Za (.ins "Work" (wfs r.1.name r.1.gap r.1.len r.1.due r.1.late (r.2.map tupH)))
structure AllH (h:IH)(vs:List IV)(rs:List RH):Prop where
 len:vs.length=rs.length
 at_:∀(i:Nat) v r,vs[i]?=Za v->rs[i]?=Za r->IsH h v r
theorem AllH.kp {h h':IH}{vs:List IV}{rs:List RH}(k:Kp h h')(w:AllH h vs rs):AllH h' vs rs:=⟨w.len,λ i v r a b=>let ⟨j,e,g⟩:=w.at_ i v r a b;⟨j,e,k _ _ g⟩⟩
theorem AllH.w {h:IH}{vs:List IV}{rs:List RH}(w:AllH h vs rs):AllW h vs (rs.map (·.1)):=by
 refine⟨by rw[Zo];exact w.len,λ i v d a b=>?_⟩
 rw[Z0] at b
 cases er:rs[i]? with
 | none=>rw[er] at b;cases b
 | some r =>
  rw[er] at b
  cases b
  obtain⟨j,e,g⟩:=w.at_ i v r a er
  exact⟨j,_,e,g⟩
theorem AllH.snoc {h:IH}{vs:List IV}{rs:List RH}{v:IV}{r:RH}(w:AllH h vs rs)(x:IsH h v r):AllH h (vs++[v]) (rs++[r]):=by
 have wl:=w.len
 refine⟨by simp[wl],λ i u e a b=>?_⟩
 by_cases hi:i<vs.length
 ·rw[Z7 hi] at a
  rw[Z7 (by omega)] at b
  exact w.at_ i u e a b
 ·rw[Zu (by omega)] at a
  rw[Zu (by omega)] at b
  have ei:i-vs.length=0:=by
   by_cases q:i-vs.length=0
   ·exact q
   ·obtain⟨n,hn⟩:∃n,i-vs.length=n+1:=⟨i-vs.length-1,by omega⟩
    rw[hn] at a
    cases a
  rw[ei] at a
  rw[<- wl,ei] at b
  cases a
  cases b
  exact x
section
variable {k:Nat}{h:IH}
end
section
variable {k:Nat}{h h1:IH}{σ:ISt}
theorem Jww {Q:IV->IH->Prop}:WR (Jre σ h) Q=Q (.ref h.length) (h++[.dct []]):=rfl
theorem Jwx {P:Pg}{m:Str}{n i:Nat}{o:E1}{a:A1}{kvs:List (Key×IV)}{Q:IV->IH->Prop}{g:IV->List IV->IH->Res IV}(e:o σ h=.ok (.ref i) h1)(hl:h1[i]?=Za (.dct kvs))(hg:bmOf "dict" m n=Za g):WR (J1 P m n o a σ h) Q=WR (a σ h1) λ vs h2=>WR (g (.ref i) vs h2) Q:=by
 unfold J1
 rw[e]
 have hi:VA (.ref i) h1=Zj:=by simp[VA,hl]
 have ht:tyS (.ref i) h1="dict":=by simp[tyS,hl]
 dsimp only
 rw[hi,ht,hg]
 dsimp only
 rw[if_neg Zp]
 unfold eBm
 rw[e,Jq,QW]
 have:tyOk "dict" (.ref i) h1=Ze:=by simp[tyOk,hl]
 rw[if_pos this,Jq]
theorem Jnw:bmOf "dict" "setdefault" 2=Za V1:=by kernel_rfl
theorem Jtb {i:Nat}{kvs:List (Key×IV)}{x:Str}{v w:IV}{Q:IV->IH->Prop}(hi:h[i]?=Za (.dct kvs))(e:valI kvs (.inr x)=Za w):WR (V1 (.ref i) [.str x,v] h) Q=Q w h:=by
 unfold V1
 simp only[hi,keyI,e]
 rfl
theorem Jta {i:Nat}{kvs:List (Key×IV)}{x:Str}{v:IV}{Q:IV->IH->Prop}(hi:h[i]?=Za (.dct kvs))(e:valI kvs (.inr x)=Zb)(hl:kvs.length<sizeLine):WR (V1 (.ref i) [.str x,v] h) Q=Q v (h.set i (.dct (kvs++[(.inr x,v)]))):=by
 unfold V1
 simp only[hi,keyI,e,hl,if_true]
 rfl
end
theorem Jqa (kvs:List (Key×IV))(k k':Key)(v:IV):valI (kvs++[(k,v)]) k'=match valI kvs k' with
  | some w=>Za w
  | none=>if k=k' then Za v else Zb:=by
 induction kvs with
 | nil =>
  by_cases e:k=k'
  ·rw[Za9,Jfh e,if_pos e];rfl
  ·rw[Za9,Jfg e,if_neg e];rfl
 | cons p r ih =>
  by_cases e:p.1=k'
  ·rw[ZH,Jfh e,Jfh e]
  ·rw[ZH,Jfg e,Jfg e,ih]
def has (x:Str)(hs:List Hd):Bool:=hs.any λ a=>decide (a.1=x)
def fstK (hss:List (List Hd))(x:Str):Option Nat:=hss.findIdx? (has x)
def fV (o:Option Nat):IV:=match o with
 | some i=>.int (i:Int)
 | none=>.non
theorem Jog (hss:List (List Hd))(hs:List Hd)(x:Str):fstK (hss++[hs]) x=match fstK hss x with
  | some i=>Za i
  | none=>if has x hs=Ze then Za hss.length else Zb:=by
 unfold fstK
 rw[List.findIdx?_append]
 cases hss.findIdx? (has x) with
 | some i=>rfl
 | none =>
  by_cases e:has x hs=Ze
  ·simp[Zdw,e]
  ·simp[Zdw,e]
theorem Jlf (x:Str)(hs:List Hd)(a:Hd):has x (hs++[a])=(has x hs||decide (a.1=x)):=by simp[has]
section
variable {k:Nat}{h:IH}
theorem dls {a:IV}:(([("works",a)]:List (Str×IV))).lookup ("size":Str)=Zb:=by kernel_rfl
theorem Jea {vs:List IV}{D:Nat}(hD:h[D]?=Za (.ins "Duty" (dfs vs))):Jc9 (k+1) [.ref D] h=.ok (.int vs.length) h:=by
 refine Jz ?_
 rw[Ji3]
 simp! [Jdm,JB hD,dl0]
def Told (kvs:List (Key×IV))(hss:List (List Hd))(n:Nat)(hs:List Hd):Prop:=∀x,valI kvs (.inr x)=match fstK hss x with
 | some i=>Za (.int (i:Int))
 | none=>if has x hs=Ze then Za (.int (n:Int)) else Zb
theorem Told.next {kvs:List (Key×IV)}{hss:List (List Hd)}{hs:List Hd}{n:Nat}(t:Told kvs hss n hs)(hn:hss.length=n):Told kvs (hss++[hs]) (n+1) []:=λ x=>by
 subst hn
 rw[t x,Jog]
 cases fstK hss x with
 | some i=>rfl
 | none =>
  by_cases e:has x hs=Ze
  ·simp only[e,if_true]
  ·simp only[e];rfl
theorem Told.old {kvs:List (Key×IV)}{hss:List (List Hd)}{n:Nat}{hs:List Hd}{a:Hd}{w:IV}(t:Told kvs hss n hs)(e:valI kvs (.inr a.1)=Za w):Told kvs hss n (hs++[a]):=λ x=>by
 rw[t x]
 cases ef:fstK hss x with
 | some i=>rfl
 | none =>
  dsimp only
  rw[Jlf]
  by_cases ea:a.1=x
  ·have:=t x
   rw[<- ea,e,ea,ef] at this
   dsimp only at this
   by_cases q:has x hs=Ze
   ·simp[q]
   ·rw[if_neg q] at this
    cases this
  ·simp[ea]
theorem Told.new {kvs:List (Key×IV)}{hss:List (List Hd)}{n:Nat}{hs:List Hd}{a:Hd}(t:Told kvs hss n hs)(e:valI kvs (.inr a.1)=Zb):Told (kvs++[(.inr a.1,.int (n:Int))]) hss n (hs++[a]):=λ x=>by
 rw[Jqa,t x]
 cases ef:fstK hss x with
 | some i=>rfl
 | none =>
  dsimp only
  rw[Jlf]
  by_cases q:has x hs=Ze
  ·simp[q]
  ·by_cases ea:a.1=x
   ·simp[q,ea]
   ·have:¬((.inr a.1:Key)=.inr x):=λ z=>ea (Sum.inr.inj z)
    simp[q,ea]
theorem Jj4 {vs:List IV}{rs:List RH}{D:Nat}(hD:h[D]?=Za (.ins "Duty" (dfs vs)))(w:AllH h vs rs)(hl:rs.length<=12)(h6:∀r∈rs,r.2.length<=6) :
  WR (Jei (k+2) [.ref D] h) λ v h'=>∃i kvs,v=.ref i/\h'[i]?=Za (.dct kvs)/\(∀x,(valI kvs (.inr x)).getD .non=fV (fstK (rs.map (·.2)) x))/\Ex h h':=by
 have hb:=JC
 have wl:=w.len
 rw[Jj9]
 simp! [Jew,Jex,Jww]
 rw[Qt (i:=D) (h1:=h++[.dct []]) rfl (grow hD) dls (Jbk _)]
 simp! [Jea (grow hD)]
 refine⟨by omega,?_⟩
 refine Q6 (λ n σ h'=>∃kvs g a b,h'=h++IX.dct kvs::g/\σ=[Za (.ref D),Za (.ref h.length),a,b]/\kvs.length<=6*n/\Told kvs ((rs.map (·.2)).take n) n []) (λ _ _ _ _=>trivial) ?_ ?_ ⟨[],[],Zb,Zb,rfl,rfl,by simp,λ x=>by simp[valI,fstK,has]⟩
 ·rintro n hn _ _ ⟨kvs,g,a,b,rfl,rfl,ln,td⟩
  rw[VF]
  rw[Qa] at hn
  have hn':n<rs.length:=by omega
  have en:(0:Int)+(n:Int)=n:=by omega
  obtain⟨j,ej,gj⟩:=w.at_ n _ _ (Zc (by omega)) (Zc hn')
  have av:atI vs (n:Int)=Za (.ref j):=Qc (by rw[Zc (by omega),ej])
  have hl6:=h6 _ (ZR hn')
  have hm:n<(rs.map (·.2)).length:=by rw[Zo];exact hn'
  have tk:(rs.map (·.2)).take (n+1)=(rs.map (·.2)).take n++[(rs[n]).2]:=by rw[Zb6 hm,ZaD]
  rw[tk]
  generalize rs[n]=r at gj hl6
  simp! [en,Jee]
  have x1:Ex h (h++IX.dct kvs::g):=.cons _ _ _
  have ed:J1 (pg (k+1)) "work" 1 (Ja 0) (Jb (Ja 2) Jd) [Za (IV.ref D),Za (IV.ref h.length),Za (IV.int (n:Int)),b] (h++IX.dct kvs::g)=.ok (.ref j) (h++IX.dct kvs::g):=by
   refine Jz ?_
   rw[Qt (i:=D) (h1:=h++IX.dct kvs::g) rfl (x1.get hD) dlw (X9 _)]
   simp! [XB (x1.get hD) av]
  rw[Qt (i:=j) (h1:=h++IX.dct kvs::g) ed (x1.get gj) flh (Je3 _)]
  simp! [Jj1 (x1.get gj),Qk,Jw]
  generalize r.2=hs at hl6
  refine Q6 (λ m σ h'=>∃kvs' b',h'=h++IX.dct kvs'::(g++[IX.lst (hs.map tupH)])/\σ=[Za (.ref D),Za (.ref h.length),Za (.int (n:Int)),b']/\kvs'.length<=6*n+m/\Told kvs' ((rs.map (·.2)).take n) n (hs.take m)) ?_ ?_ ?_ ⟨kvs,b,by rw[ZF,ZH],rfl,by omega,td⟩
  ·rintro _ _ _ ⟨kvs',b',rfl,_⟩
   rw[show h++IX.dct kvs'::(g++[IX.lst (hs.map tupH)])=(h++IX.dct kvs'::g)++[IX.lst (hs.map tupH)] by rw[ZF,ZH],
    show(h++IX.dct kvs::g).length=(h++IX.dct kvs'::g).length by simp]
   exact Jw
  ·rintro m hm _ _ ⟨kvs',b',rfl,rfl,lm,tm⟩
   have hm':m<hs.length:=by simpa using hm
   rw[ZaD,Zb6 hm']
   generalize hs[m]=a at *
   simp! [Jed]
   rw[Jwx (i:=h.length) (h1:=h++IX.dct kvs'::(g++[IX.lst (hs.map tupH)])) rfl Jr Jnw]
   simp! [tupH]
   cases ev:valI kvs' (.inr a.1) with
   | some w' =>
    rw[Jtb Jr ev]
    exact⟨kvs',_,rfl,rfl,by omega,tm.old ev⟩
   | none =>
    rw[Jta Jr ev (by omega),V0]
    exact⟨_,_,rfl,rfl,by rw[ZE,ZbT];omega,tm.new ev⟩
  ·rintro _ _ ⟨kvs',b',rfl,rfl,lm,tm⟩
   rw[Zo] at lm tm
   rw[ZaW (Zr _)] at tm
   have ltn:((rs.map (·.2)).take n).length=n:=by rw[Zad];omega
   exact⟨kvs',_,_,_,rfl,rfl,by omega,tm.next ltn⟩
 ·rintro _ _ ⟨kvs,g,a,b,rfl,rfl,ln,td⟩
  simp! [Jey]
  refine⟨_,kvs,rfl,Jr,λ x=>?_,.cons _ _ _⟩
  have:=td x
  rw[Qa,ZaW (by rw[Zo];omega)] at this
  rw[this]
  cases fstK (rs.map (·.2)) x with
  | some i=>rfl
  | none=>simp[has,fV]
end
def tn (b:Hd):Int:=b.2.2-b.2.1-1
def stB (hss:List (List Hd))(a:Nat)(b:Hd):Bool:=match fstK hss b.1 with
 | some m=>decide (m<=a)
 | none=>Zj
def fds (st:Hd->Bool):Nat->List (List Hd)->List (Nat×Hd)
 | _,[]=>[]
 | o,hs::r=>(hs.filter st).map (λ b=>(o,b))++fds st (o+1) r
theorem Jle (st:Hd->Bool):∀(l:List (List Hd))(o:Nat)(hs:List Hd),fds st o (l++[hs])=fds st o l++(hs.filter st).map λ b=>(o+l.length,b)
 | [],o,hs=>by simp[fds]
 | a::l,o,hs=>by
  rw[ZH,fds,fds,Jle st l (o+1) hs,ZF,ZC,show o+1+l.length=o+(l.length+1) by omega]
theorem Joe (st:Hd->Bool):∀(l:List (List Hd))(o:Nat),(∀hs∈l,hs.length<=6)->(fds st o l).length<=6*l.length
 | [],o,_=>by simp[fds]
 | a::l,o,q=>by
  have h1:=Joe st l (o+1) λ hs h=>q hs (Zt _ h)
  have h2:=q a Zv
  have h3:=ZbV st a
  rw[fds,ZE,Zo,ZC]
  omega
def prV (p:Nat×Hd):IV:=.tup [.int (p.1:Int),tupH p.2]
def kfV (v:IV):Int:=match v with
 | .tup [_,.tup [_,.int s,.int e]]=>e-s-1
 | _=>0
theorem J00 (p:Nat×Hd):kfV (prV p)=tn p.2:=rfl
theorem Jnt (l:List (Nat×Hd)):(l=[]/\X2 kfV .non (l.map prV)=.non)∨∃p∈l,X2 kfV .non (l.map prV)=prV p/\∀p'∈l,tn p'.2<=tn p.2:=by
 cases l with
 | nil=>exact .inl ⟨rfl,rfl⟩
 | cons p0 r =>
  refine .inr ?_
  rw[Zs]
  show ∃p∈p0::r,Qm kfV (prV p0) (r.map prV)=prV p/\_
  obtain⟨h1,h2⟩:=Jf1 kfV (r.map prV) (prV p0)
  have key:∀p,Qm kfV (prV p0) (r.map prV)=prV p->∀p'∈p0::r,tn p'.2<=tn p.2:=λ p e p' hp'=>by
   rw[e,J00] at h1 h2
   rcases ZB.mp hp' with rfl|hp'
   ·exact h1
   ·exact h2 _ (Z6.mpr ⟨p',hp',rfl⟩)
  rcases Jeo kfV (r.map prV) (prV p0) with e|e
  ·exact⟨p0,Zv,e,key p0 e⟩
  ·obtain⟨p,hp,e⟩:=Z6.mp e
   exact⟨p,Zt _ hp,e.symm,key p e.symm⟩
structure Dty (h:IH)(D:Nat)(vs:List IV)(rs:List RH):Prop where
 d:h[D]?=Za (.ins "Duty" (dfs vs))
 w:AllH h vs rs
 few:rs.length<=12
 six:∀r∈rs,r.2.length<=6/\∀a∈r.2,IsNm a.1
theorem Dty.kp {h h':IH}{D:Nat}{vs:List IV}{rs:List RH}(k:Kp h h')(y:Dty h D vs rs):Dty h' D vs rs:=⟨k _ _ y.d,y.w.kp k,y.few,y.six⟩
def stV (hss:List (List Hd))(a:Nat)(v:IV):Bool:=match v with
 | .tup [.str x,.int s,.int e]=>stB hss a (x,s,e)
 | _=>Zj
def Jv6 (o:Int)(v:IV):IV:=.tup [.int o,v]
theorem Jpw (hss:List (List Hd))(a o:Nat):∀hs:List Hd,((hs.map tupH).filter (stV hss a)).map (Jv6 (o:Int))=((hs.filter (stB hss a)).map λ b=>(o,b)).map prV
 | []=>rfl
 | b::hs=>by
  rw[Zs,ZcP,ZcP]
  have e:stV hss a (tupH b)=stB hss a b:=rfl
  rw[e]
  split
  ·rw[Zs,Zs,Zs,Jpw hss a o hs]
   rfl
  ·exact Jpw hss a o hs
section
variable {k:Nat}{h:IH}
theorem Jw3 {i:Nat}{kvs:List (Key×IV)}{x:Str}{v:IV}{Q:IV->IH->Prop}(hi:h[i]?=Za (.dct kvs))(e:valI kvs (.inr x)=Za v):WR (Xg (.ref i) (.str x) h) Q=Q v h:=by
 unfold Xg
 simp only[hi,keyI,e]
 rfl
theorem Jlu (b:Hd):Ja8 (k+1) [tupH b] h=.ok (.int (tn b)) h:=by
 refine Jz ?_
 rw[Jhu]
 simp! [Jc6,tupH,tn]
theorem Jw7 {gt:IV->IV->Option Bool}{q:Str}{j i a:Nat}{js:List Nat}{m:E1}{d:IV}{σ:ISt}{Q:IV->IH->Prop}(hj:h[j]?=Za (.tab q))(hi:σ[i]?=Za (Za (.ref a))) :
  WR (XF gt q j js (Jb (Ja i) Jd) m (eC d) σ h) Q=WR (Xc gt (λ v h'=>m (Za v::js.map λ j=>(σ[j]?).join) h') a d h) Q:=by
 have e:Jb (Ja i) Jd σ h=.ok [.ref a] h:=by
  unfold Jb Ja Jd
  rw[hi]
  rfl
 unfold XF
 rw[e]
 show WR (match h[j]? with|some (.tab q')=>_|_=>_) Q=_
 rw[hj]
 dsimp only
 rw[if_pos rfl]
 rfl
theorem Jmw {D a:Nat}{vs:List IV}{rs:List RH}(y:Dty h D vs rs)(ha:a<rs.length)(h0:h[0]?=Za (.tab "longest_hold")) :
  WR (Jbl (k+3) [.ref D,.int (a:Int)] h) λ v h'=>v=X2 kfV .non ((fds (stB (rs.map (·.2)) a) (a+1) ((rs.map (·.2)).drop (a+1))).map prV)/\Ex h h':=by
 have hb:=JC
 rw[Jf9]
 simp! [Jcg]
 refine WR.mono (Jj4 (k:=k) y.d y.w y.few λ r hr=>(y.six r hr).1) ?_
 rintro _ h1 ⟨t,kvs,rfl,gt,tv,x1⟩
 have y1:=y.kp x1.kp
 have wl:=y1.w.len
 have few:=y.few
 simp! [Jch,Jci,ZaM,Zal]
 rw[Qt (i:=D) (h1:=h1++[.lst []]) rfl (grow y1.d) dls (Jbk _)]
 simp! [Jea (grow y1.d)]
 refine⟨by omega,?_⟩
 generalize hss':rs.map (·.2)=hss at tv
 have lh:hss.length=rs.length:=by rw[<- hss'];simp
 have six:∀hs∈hss,hs.length<=6:=λ hs q=>by
  rw[<- hss'] at q
  obtain⟨r,hr,rfl⟩:=Z6.mp q
  exact(y.six r hr).1
 refine Q6 (λ m σ h'=>∃g c,h'=h1++IX.lst ((fds (stB hss a) (a+1) ((hss.drop (a+1)).take m)).map prV)::g/\σ=[Za (.ref D),Za (.int (a:Int)),Za (.ref t),Za (.ref h1.length),c]) (λ _ _ _ _=>trivial) ?_ ?_ ⟨[],Zb,rfl,rfl⟩
 ·rintro n hn _ _ ⟨g,c,rfl,rfl⟩
  rw[VF]
  rw[Qa] at hn
  have hn':a+1+n<rs.length:=by omega
  have en:(a:Int)+1+(n:Int)=((a+1+n:Nat):Int):=by push_cast;omega
  have hd:n<(hss.drop (a+1)).length:=by rw[ZcM];omega
  have ed:(hss.drop (a+1))[n]=(rs[a+1+n]).2:=by
   rw[List.getElem_drop]
   subst hss'
   rw[ZaD]
  rw[Zb6 hd,Jle,Zad,Zdd (by omega),ed]
  have lf:=Joe (stB hss a) ((hss.drop (a+1)).take n) (a+1) λ hs q=>six hs (ZcZ (ZaT q))
  rw[Zad,Zdd (by omega)] at lf
  generalize hF:fds (stB hss a) (a+1) ((hss.drop (a+1)).take n)=F at lf
  obtain⟨j,ej,gj⟩:=y1.w.at_ (a+1+n) _ _ (Zc (by omega)) (Zc hn')
  have av:atI vs ((a+1+n:Nat):Int)=Za (.ref j):=Qc (by rw[Zc (by omega),ej])
  have hl6:=(y.six _ (ZR hn')).1
  have held:∀b∈(rs[a+1+n]).2,∃m,fstK hss b.1=Za m:=λ b hb'=>by
   cases e:fstK hss b.1 with
   | some m=>exact⟨m,rfl⟩
   | none =>
    exfalso
    unfold fstK at e
    rw[Zd1] at e
    have:=e (rs[a+1+n]).2 (by rw[<- hss'];exact Z6.mpr ⟨_,ZR hn',rfl⟩)
    unfold has at this
    have t2:((rs[a+1+n]).2.any λ x=>decide (x.1=b.1))=Ze:=ZbG.mpr ⟨b,hb',by simp⟩
    rw[t2] at this
    cases this
  generalize rs[a+1+n]=r at gj hl6 held
  have x2:Ex h1 (h1++IX.lst (F.map prV)::g):=.cons _ _ _
  rw[en]
  simp! [Jbv]
  have ew:J1 (pg (k+2)) "work" 1 (Ja 0) (Jb (Ja 4) Jd) [Za (IV.ref D),Za (IV.int (a:Int)),Za (IV.ref t),Za (IV.ref h1.length),Za (IV.int ((a+1+n:Nat):Int))] (h1++IX.lst (F.map prV)::g)=.ok (.ref j) (h1++IX.lst (F.map prV)::g):=by
   refine Jz ?_
   rw[Qt (i:=D) (h1:=h1++IX.lst (F.map prV)::g) rfl (x2.get y1.d) dlw (X9 _)]
   simp! [XB (x2.get y1.d) av]
  rw[Jkq (i:=h1.length) (h1:=h1++IX.lst (F.map prV)::g) rfl Jr Jnu]
  simp! [true_and]
  refine WR.mono (Jie (h:=h1++IX.lst (F.map prV)::g++[IX.lst (r.2.map tupH)]) (xs:=r.2.map tupH) (chk:=λ h'=>h'[(h1++IX.lst (F.map prV)::g).length]?=Za (.lst (r.2.map tupH))) (p:=stV hss a) (f:=Jv6 ((a+1+n:Nat):Int)) ?_ (by rw[Zo];omega) (λ h2 q=>q _ _ Jw) ?_ ?_) ?_
  ·rw[Jig,Qt (i:=j) (h1:=h1++IX.lst (F.map prV)::g) ew (x2.get gj) flh (Je3 _)]
   simp! [Jj1 (x2.get gj),Qk,Jw]
  ·intro v hv h2 q
   obtain⟨b,hb',rfl⟩:=Z6.mp hv
   obtain⟨m,em⟩:=held b hb'
   have ev:valI kvs (.inr b.1)=Za (.int (m:Int)):=by
    have z:=tv b.1
    rw[em] at z
    cases w:valI kvs (.inr b.1) with
    | none=>rw[w] at z;cases z
    | some v'=>rw[w] at z;exact congrArg Za z
   have gt2:h2[t]?=Za (.dct kvs):=q _ _ (grow (x2.get gt))
   simp only[Zs,ZaB,ZS,Zai,ZaS]
   simp! [Jbf,tupH,Jw3 gt2 ev]
   refine⟨?_,.refl _⟩
   show decide ((m:Int)<=a)=stB hss a b
   unfold stB
   rw[em]
   simp
  ·intro v hv _ h2 q
   simp only[Zs,ZaB,ZS,Zai,ZaS]
   simp! [Jbe,Jv6,ZC,ZaM]
   exact⟨by omega,.refl _⟩
  ·rintro _ _ ⟨rfl,g2,rfl⟩
   rw[Jpw]
   have lr:=ZbV (stB hss a) r.2
   rw[Jqj (xs:=F.map prV) (grow (grow Jr)) Jr (by rw[Zo,Zo,Zo];omega)]
   refine⟨g++[IX.lst (r.2.map tupH)]++IX.lst (((r.2.filter (stB hss a)).map λ b=>(a+1+n,b)).map prV)::g2,_,?_,rfl⟩
   rw[ZF,ZF,ZH,V0,Zb0,ZF]
 ·rintro _ _ ⟨g,c,rfl,rfl⟩
  rw[Qa,ZaW (by rw[ZcM];omega)]
  generalize fds (stB hss a) (a+1) (hss.drop (a+1))=F
  have x2:Ex h1 (h1++IX.lst (F.map prV)::g):=.cons _ _ _
  simp! [Jcj]
  rw[Jw7 (x2.get (x1.get h0)) rfl]
  refine WR.mono (Js9 (kf:=kfV) Jr ?_) ?_
  ·intro v hv h2 x3
   obtain⟨p,hp,rfl⟩:=Z6.mp hv
   simp! [Jbg,prV,Jlu]
   exact⟨rfl,.refl _⟩
  ·rintro v h3 ⟨rfl,x3⟩
   exact⟨rfl,(x1.trans x2).trans x3⟩
def UpIs (l:List (Nat×Hd))(z:Int):Prop:=(l=[]/\z=0)∨∃p∈l,z=tn p.2/\∀p'∈l,tn p'.2<=z
theorem Jmo {D a:Nat}{vs:List IV}{rs:List RH}(y:Dty h D vs rs)(ha:a<rs.length)(h0:h[0]?=Za (.tab "longest_hold")) :
  WR (Jfm (k+4) [.ref D,.int (a:Int)] h) λ v h'=>(∃z,v=.int z/\UpIs (fds (stB (rs.map (·.2)) a) (a+1) ((rs.map (·.2)).drop (a+1))) z)/\Ex h h':=by
 rw[Jmh]
 simp! [Jfp]
 refine WR.mono (Jmw (k:=k) y ha h0) ?_
 rintro _ h1 ⟨rfl,x1⟩
 generalize fds (stB (rs.map (·.2)) a) (a+1) ((rs.map (·.2)).drop (a+1))=F
 rcases Jnt F with⟨e1,e2⟩|⟨p,hp,e2,all⟩
 ·rw[e2]
  simp! [Jde,Xq,isI]
  exact⟨.inl ⟨e1,rfl⟩,x1⟩
 ·rw[e2]
  simp! [Jde,prV,Xq,isI,Jlu]
  exact⟨.inr ⟨p,hp,rfl,all⟩,x1⟩
end
def sgs (l:List (List Hd)):List Str:=(l.map λ hs=>hs.map (·.1)).flatten
def tns (st:Hd->Bool)(l:List (List Hd)):List Int:=(l.map λ hs=>(hs.filter st).map tn).flatten
theorem Jof (st:Hd->Bool):∀(l:List (List Hd))(o:Nat),(fds st o l).map (λ p=>tn p.2)=tns st l
 | [],_=>rfl
 | a::l,o=>by
  rw[fds,Zb0,Jof st l (o+1),Zdn]
  rfl
theorem J1p (hss:List (List Hd))(a:Nat)(b:Hd):((sgs (hss.take (a+1))).any λ x=>decide (x=b.1))=stB hss a b:=by
 rw[ZbP,ZbG]
 unfold stB
 have key:∀i (hi:i<hss.length),has b.1 hss[i]=Ze↔∃c∈hss[i],c.1=b.1:=λ i hi=>by
  unfold has
  rw[ZbG]
  exact⟨λ ⟨c,hc,e⟩=>⟨c,hc,of_decide_eq_true e⟩,λ ⟨c,hc,e⟩=>⟨c,hc,decide_eq_true e⟩⟩
 constructor
 ·rintro⟨x,hx,e⟩
  have e:=of_decide_eq_true e
  subst e
  unfold sgs at hx
  obtain⟨l,hl,hx⟩:=Zck.mp hx
  obtain⟨hs,hh,rfl⟩:=Z6.mp hl
  obtain⟨c,hc,ec⟩:=Z6.mp hx
  obtain⟨i,hi,rfl⟩:=Zan.mp hh
  rw[Zad] at hi
  rw[Zd6] at hc
  have hi':i<hss.length:=by omega
  have hb:=(key i hi').mpr ⟨c,hc,ec⟩
  cases ef:fstK hss b.1 with
  | none =>
   unfold fstK at ef
   rw[Zd1] at ef
   rw[ef _ (ZR hi')] at hb
   cases hb
  | some m =>
   unfold fstK at ef
   obtain⟨hm,_,lt⟩:=Zaz.mp ef
   have:m<=i:=by
    by_cases q:i<m
    ·exact absurd hb (lt i q)
    ·omega
   exact decide_eq_true (by omega)
 ·intro e
  cases ef:fstK hss b.1 with
  | none=>rw[ef] at e;cases e
  | some m =>
   rw[ef] at e
   have e:m<=a:=of_decide_eq_true e
   unfold fstK at ef
   obtain⟨hm,hp,_⟩:=Zaz.mp ef
   obtain⟨c,hc,ec⟩:=(key m hm).mp hp
   refine⟨b.1,?_,by simp⟩
   unfold sgs
   refine Zck.mpr ⟨_,Z6.mpr ⟨hss[m],?_,rfl⟩,Z6.mpr ⟨c,hc,ec⟩⟩
   exact Zan.mpr ⟨m,by rw[Zad];omega,by rw[Zd6]⟩
noncomputable def stT (v:IV):ISt:=match v with
 | .tup [a,b,c]=>[Za a,Za b,Za c]
 | _=>[]
def cmn (s:Int)(d:WD):Int:=if 1<=s then rup (s+d.late) d.gap else 0
def JF (rs:List RH)(s:Int):Int:=(rs.map λ r=>cmn s r.1*r.1.len).sum
def aOfN (s:Int)(h:IH)(v:IV):IV:=match QC "late" v h,QC "gap" v h,QC "length" v h with
 | some (.int l),Za (.int g),Za (.int n)=>.int ((if 1<=s then rup (s+l) g else 0)*n)
 | _,_,_=>.non
def Jug (rs:List RH):Prop:=∀r∈rs,0<r.1.gap/\r.1.gap.natAbs.log2<9000/\r.1.len.natAbs<2^64
theorem AllH.take {h:IH}{vs:List IV}{rs:List RH}(w:AllH h vs rs)(n:Nat):AllH h (vs.take n) (rs.take n):=by
 refine⟨by rw[Zad,Zad,w.len],λ i v r a b=>?_⟩
 rw[Zc2] at a b
 split at a
 ·rename_i q
  rw[if_pos q] at b
  exact w.at_ i v r a b
 ·cases a
def vAt (vs:List IV)(v:IV):IV:=match v with
 | .int n=>(vs[n.toNat]?).getD .non
 | _=>.non
theorem Jws (vs:List IV)(a:Nat)(ha:a<=vs.length):(rngI 0 (a:Int)).map (vAt vs)=vs.take a:=by
 refine ZbY λ i=>?_
 rw[Z0]
 by_cases hi:i<a
 ·have hr:i<(rngI 0 (a:Int)).length:=by rw[Qa];omega
  rw[Zc hr,VF,Zc2,if_pos hi,Zc (show i<vs.length by omega)]
  simp only[Zbz,vAt]
  rw[show((0:Int)+(i:Int)).toNat=i by omega,Zc (show i<vs.length by omega)]
  rfl
 ·rw[Zbc (by rw[Qa];omega),Zc2,if_neg hi]
  rfl
section
variable {k:Nat}{h:IH}
theorem Jmd {d:WD}{hs:List IV}{w:Nat}{s:Int}(hw:h[w]?=Za (.ins "Work" (wfs d.name d.gap d.len d.due d.late hs)))(hg:0<d.gap)(hl:d.gap.natAbs.log2<9000) :
  Jcm (k+2) [.ref w,.int s] h=.ok (.int (cmn s d)) h:=by
 refine Jz ?_
 rw[Jhs]
 simp! [Jc5,JB hw,fl4,fl1,Jjn hg hl,decide_eq_true_eq,decide_eq_false_iff_not,cmn]
 exact⟨λ q=>by rw[if_pos q],λ q=>by rw[if_neg q]⟩
theorem Jn2 {h h0:IH}{it:I1}{e:E1}{js:List Nat}{σ:ISt}{xs:List IV}{chk:IH->Prop}{f:IV->IV}(hit:WR (it σ h0) λ J h1=>J.xs=xs/\J.chk=chk/\h1=h)(hl:xs.length<sizeLine)
  (hc:∀h2:IH,(∀(j:Nat)(ob:IX),h[j]?=Za ob->h2[j]?=Za ob)->chk h2)
  (he:∀x∈xs,∀h2:IH,(∀(j:Nat)(ob:IX),h[j]?=Za ob->h2[j]?=Za ob)->WR (e (Za x::js.map λ j=>(σ[j]?).join) h2) λ v h3=>v=f x/\Ex h2 h3) :
  ∃g,Js it 1 js (gNm 0) JJ e σ h0=.ok (.ref h.length) (h++.lst (xs.map f)::g):=by
 obtain⟨v,h3,e,rfl,g,rfl⟩:=(Qs hit hl hc he).eq
 exact⟨g,e⟩
theorem Jpz {D a:Nat}{vs:List IV}{s2 s3 s4:Option IV}(hD:h[D]?=Za (.ins "Duty" (dfs vs)))(ha:a<=vs.length)(hv:vs.length<=12) :
  ∃g,Js (iRg JD (Jb (Ja 1) Jd)) 1 [0] (gNm 0) JJ (X4 (k+1)) [Za (.ref D),Za (.int (a:Int)),s2,s3,s4] h=.ok (.ref h.length) (h++.lst (vs.take a)::g):=by
 have hb:=JC
 have X:=@Jn2 h h (iRg JD (Jb (Ja 1) Jd)) (X4 (k+1)) [0] [Za (.ref D),Za (.int (a:Int)),s2,s3,s4] (rngI 0 (a:Int)) (λ _=>True) (vAt vs)
  (by simp! [true_and];exact⟨by omega,by omega⟩) (by rw[Qa];omega) (λ _ _=>trivial) (by
   intro x hx h2 q
   obtain⟨n,hn,rfl⟩:=Zan.mp hx
   rw[Qa] at hn
   rw[VF,show(0:Int)+(n:Int)=n by omega]
   have hnv:n<vs.length:=by omega
   have av:atI vs (n:Int)=Za vs[n]:=Qc (Zc hnv)
   have eD:h2[D]?=Za (.ins "Duty" (dfs vs)):=q _ _ hD
   simp only[Zs,ZaB,ZS,Zai,ZaS]
   unfold X4
   rw[Qt (i:=D) (h1:=h2) rfl eD dlw (X9 _)]
   simp! [XB eD av]
   refine⟨?_,.refl _⟩
   unfold vAt
   dsimp only
   rw[show(n:Int).toNat=n by omega,Zc hnv]
   rfl)
 rw[Jws vs a ha] at X
 exact X
theorem Jxc {r:Res IV}{h:IH}{P:Int->Prop}{f:Int->Int}(W:WR r λ v h'=>(∃z,P z/\v=.int (f z))/\Ex h h'):∃z h',P z/\r=.ok (.int (f z)) h'/\Ex h h':=by
 obtain⟨v,h',e,⟨z,p,rfl⟩,x⟩:=W.eq
 exact⟨z,h',p,e,x⟩
theorem Jvs {D a:Nat}{vs:List IV}{rs:List RH}{s:Int}(y:Dty h D vs rs)(ha:a<rs.length)(h0:h[0]?=Za (.tab "longest_hold"))(hg:Jug rs) :
  ∃z h',UpIs (fds (stB (rs.map (·.2)) a) (a+1) ((rs.map (·.2)).drop (a+1))) z/\Xw (k+5) [.ref D,.int (a:Int),.int s] h=.ok (.int (z+(rs[a]).1.len+JF (rs.take a) s)) h'/\Ex h h':=by
 refine Jxc (P:=UpIs (fds (stB (rs.map (·.2)) a) (a+1) ((rs.map (·.2)).drop (a+1)))) (f:=λ z=>z+(rs[a]).1.len+JF (rs.take a) s) ?_
 have hb:=JC
 have wl:=y.w.len
 have few:=y.few
 rw[Ju3]
 simp! [Jk0]
 have Y0:=@Jpz (k+3) h D a vs (Za (.int s)) Zb Zb y.d (by omega) (by omega)
 generalize Js (iRg JD (Jb (Ja 1) Jd)) 1 [0] (gNm 0) JJ (X4 (k+3+1)) [Za (.ref D),Za (.int (a:Int)),Za (.int s),Zb,Zb] h=rc at Y0 ⊢
 obtain⟨g,rfl⟩:=Y0
 rw[QW]
 have x1:Ex h (h++IX.lst (vs.take a)::g):=.cons _ _ _
 have gV:(h++IX.lst (vs.take a)::g)[h.length]?=Za (.lst (vs.take a)):=Jr
 generalize h.length=V at gV
 generalize h++IX.lst (vs.take a)::g=h1 at x1 gV
 have y1:=y.kp x1.kp
 have w1:=(y1.w.take a).w
 have rm:=w1.mapF (F:=aOfN s h1) (g:=λ d=>.int (cmn s d*d.len)) λ j d hs e=>by rw[aOfN,JB e,JB e,JB e,fl4,fl1,fl2];rfl
 simp! [Jk1]
 refine WR.mono (Qs (h:=h1) (xs:=vs.take a) (chk:=λ h'=>h'[V]?=Za (.lst (vs.take a))) (f:=aOfN s h1) ?_ (by rw[Zad];omega) (λ h2 q=>q _ _ gV) ?_) ?_
 ·simp! [Qk,gV]
 ·intro v hv h2 q
  obtain⟨d,hd,j,hs,rfl,e⟩:=w1.of hv
  obtain⟨r,hr,rfl⟩:=Z6.mp hd
  have g:=hg r (ZaT hr)
  have e2:=q _ _ e
  have mf:Q8 (cmn s r.1) r.1.len:=.inr (.inl g.2.2)
  simp only[Zs,ZaB,ZS,Zai,ZaS]
  simp! [Jg7,Jmd e2 g.1 g.2.1,JB e2,fl2,mf]
  exact⟨by rw[aOfN,JB e,JB e,JB e,fl4,fl1,fl2];rfl,.refl _⟩
 ·rintro _ _ ⟨rfl,g2,rfl⟩
  rw[rm]
  have em:((rs.take a).map (·.1)).map (λ d=>IV.int (cmn s d*d.len))=((rs.take a).map λ r=>cmn s r.1*r.1.len).map IV.int:=by rw[Zdn,Zdn];rfl
  rw[em]
  have x2:Ex h1 (h1++IX.lst (((rs.take a).map λ r=>cmn s r.1*r.1.len).map IV.int)::g2):=.cons _ _ _
  simp! [Jks,Jr,Vv,Jk2]
  generalize h1++IX.lst (((rs.take a).map λ r=>cmn s r.1*r.1.len).map IV.int)::g2=h2 at x2
  have y2:=y1.kp x2.kp
  refine WR.mono (Jmo (k:=k) y2 ha ((x1.trans x2).get h0)) ?_
  rintro _ h3 ⟨⟨z,rfl,up⟩,x3⟩
  have y3:=y2.kp x3.kp
  obtain⟨j,ej,gj⟩:=y3.w.at_ a _ _ (Zc (show a<vs.length by omega)) (Zc ha)
  have av:atI vs (a:Int)=Za (.ref j):=Qc (by rw[Zc (show a<vs.length by omega),ej])
  rw[Qt (i:=D) (h1:=h3) rfl y3.d dlw (X9 _)]
  simp! [XB y3.d av,JB gj,fl2]
  exact⟨⟨z,up,rfl⟩,(x1.trans x2).trans x3⟩
end
theorem UpIs.uniq {F:List (Nat×Hd)}{z z':Int}(u:UpIs F z)(u':UpIs F z'):z=z':=by
 rcases u with⟨e,rfl⟩|⟨p,hp,rfl,a⟩
 ·rcases u' with⟨_,rfl⟩|⟨p',hp',_,_⟩
  ·rfl
  ·rw[e] at hp';cases hp'
 ·rcases u' with⟨e,rfl⟩|⟨p',hp',rfl,a'⟩
  ·rw[e] at hp;cases hp
  ·have:=a p' hp'
   have:=a' p hp
   omega
structure UpW (l:List (Nat×Hd))(z:Int):Prop where
 nn:0<=z
 of:z=0∨∃p∈l,z=tn p.2
 le:∀p∈l,tn p.2<=z
theorem UpW.is {F:List (Nat×Hd)}{z:Int}(u:UpW F z)(pos:∀p∈F,0<=tn p.2):UpIs F z:=by
 rcases u.of with rfl|⟨p,hp,rfl⟩
 ·cases F with
  | nil=>exact .inl ⟨rfl,rfl⟩
  | cons p F =>
   refine .inr ⟨p,Zv,?_,λ p' hp'=>u.le p' hp'⟩
   have:=u.le p Zv
   have:=pos p Zv
   omega
 ·exact .inr ⟨p,hp,rfl,λ p' hp'=>u.le p' hp'⟩
theorem Jl9 {t:T1}{b:S1}{σ:ISt}{h:IH}{N:ISt->IH->Prop}{R:IV->IH->Prop}(I:Nat->ISt->IH->Prop)
  (turn:∀m σ h,I m σ h->WR (t σ h) λ c h1=>(c=Ze->∃m',m=m'+1/\WS (b σ h1) (I m') R)/\(c=Zj->N σ h1)){m:Nat}(hm:m<1000000)(start:I m σ h):WS (VG t b σ h) N R:=by
 have key:∀(n m:Nat)(σ:ISt)(h:IH),m<n->I m σ h->WS (Q5 t b n σ h) N R:=by
  intro n
  induction n with
  | zero=>intro m σ h hn _;omega
  | succ n ih =>
   intro m σ h hn hI
   obtain⟨c,h1,e,q1,q2⟩:=(turn m σ h hI).eq
   unfold Q5
   rw[e]
   cases c with
   | false=>exact q2 rfl
   | true =>
    obtain⟨m',rfl,w⟩:=q1 rfl
    simp only[if_true]
    cases eb:b σ h1 with
    | next σ2 h2=>rw[eb] at w;exact ih m' σ2 h2 (by omega) w
    | ret v h2=>rw[eb] at w;exact w
    | _=>rw[eb] at w;exact w.elim
 have et:VL=1000000:=by unfold VL;rfl
 rw[Jgj]
 exact key _ m σ h (by rw[et];exact hm) start
theorem Jsr {x y g:Int}(hg:0<g)(h:x<=y):rup x g<=rup y g:=by
 unfold rup
 exact Int.ediv_le_ediv hg (by omega)
theorem Jhp {s t:Int}{d:WD}(hg:0<d.gap)(h1:1<=s)(h:s<=t):cmn s d<=cmn t d:=by
 unfold cmn
 rw[if_pos h1,if_pos (by omega)]
 exact Jsr hg (by omega)
def cnt (rs:List RH)(s:Int):Int:=(rs.map λ r=>cmn s r.1).sum
theorem Jk4 {s t:Int}(h1:1<=s)(h:s<=t):∀{rs:List RH},(∀r∈rs,0<r.1.gap)->cnt rs s<=cnt rs t
 | [],_=>Zb5 _
 | r::rs,q=>by
  have:=Jk4 h1 h (rs:=rs) λ r hr=>q r (Zt _ hr)
  have:=Jhp (d:=r.1) (q r Zv) h1 h
  unfold cnt at *
  rw[Zs,Zs,Zbh,Zbh]
  omega
theorem Jel {s t:Int}(h1:1<=s)(h:s<=t):∀{rs:List RH},(∀r∈rs,0<r.1.gap/\0<=r.1.len)->JF rs s<=JF rs t
 | [],_=>Zb5 _
 | r::rs,q=>by
  have a:=Jel h1 h (rs:=rs) λ r hr=>q r (Zt _ hr)
  have b:=ZbH (Jhp (d:=r.1) (q r Zv).1 h1 h) (q r Zv).2
  unfold JF at *
  rw[Zs,Zs,Zbh,Zbh]
  omega
theorem Jtk {s t:Int}(h1:1<=s)(h:s<=t):∀{rs:List RH},(∀r∈rs,0<r.1.gap/\0<=r.1.len)->JF rs s<JF rs t->cnt rs s<cnt rs t
 | [],_,z=>absurd z (Int.lt_irrefl _)
 | r::rs,q,z=>by
  have q':∀r∈rs,0<r.1.gap/\0<=r.1.len:=λ r hr=>q r (Zt _ hr)
  have c1:=Jhp (d:=r.1) (q r Zv).1 h1 h
  have c2:=Jk4 h1 h (rs:=rs) λ r hr=>(q' r hr).1
  have ih:=Jtk h1 h q'
  unfold JF cnt at *
  rw[Zs,Zs,Zbh,Zbh] at z ⊢
  by_cases e:cmn s r.1=cmn t r.1
  ·rw[e] at z ⊢
   have:=ih (by omega)
   omega
  ·omega
theorem Jtj {s:Int}{d:WD}(hg:0<d.gap)(hl:0<=d.late):0<=cmn s d:=by
 unfold cmn
 split
 ·unfold rup
  exact Int.ediv_nonneg (by omega) (by omega)
 ·exact Zb5 _
theorem Jtl {s:Int}:∀{rs:List RH},(∀r∈rs,0<r.1.gap/\0<=r.1.late)->0<=cnt rs s
 | [],_=>Zb5 _
 | r::rs,q=>by
  have a:=Jtl (s:=s) (rs:=rs) λ r hr=>q r (Zt _ hr)
  have b:=Jtj (s:=s) (d:=r.1) (q r Zv).1 (q r Zv).2
  unfold cnt at *
  rw[Zs,Zbh]
  omega
theorem Jkz {s:Int}:∀{rs:List RH},(∀r∈rs,0<r.1.gap/\0<=r.1.late/\0<=r.1.len)->0<=JF rs s
 | [],_=>Zb5 _
 | r::rs,q=>by
  have a:=Jkz (s:=s) (rs:=rs) λ r hr=>q r (Zt _ hr)
  obtain⟨q1,q2,q3⟩:=q r Zv
  have b:=Int.mul_nonneg (Jtj (s:=s) (d:=r.1) q1 q2) q3
  unfold JF at *
  rw[Zs,Zbh]
  omega
def ldF (z L:Int)(rs:List RH)(s:Int):Int:=z+L+JF rs s
def J0e (ld:Int->Int)(far:Int)(v:IV):Prop :=
 (v=.non/\∀l,1<=l->l<=far->l<ld l)∨∃x,v=.int x/\1<=x/\x<=far/\ld x=x/\∀l,1<=l->l<x->l<ld l
section
variable {k:Nat}{h:IH}
theorem Jmq {d:WD}{hs:List IV}{w:Nat}{s:Int}(hw:h[w]?=Za (.ins "Work" (wfs d.name d.gap d.len d.due d.late hs))) :
  Jfn (k+1) [.ref w,.int s] h=.ok (.bl (decide (s+d.late<=d.due))) h:=by
 refine Jz ?_
 rw[Jmi]
 simp! [Jfq,JB hw,fl4,fl3]
theorem Jnl {D a:Nat}{vs:List IV}{rs:List RH}{z:Int}(y:Dty h D vs rs)(ha:a<rs.length)(h0:h[0]?=Za (.tab "longest_hold"))(hg:Jug rs)(nn:∀r∈rs,0<=r.1.late/\1<=r.1.len)
  (up:UpIs (fds (stB (rs.map (·.2)) a) (a+1) ((rs.map (·.2)).drop (a+1))) z)(z0:0<=z)(few:∀s,1<=s->s+(rs[a]).1.late<=(rs[a]).1.due->cnt (rs.take a) s<=100) :
  WR (VR (k+6) [.ref D,.int (a:Int)] h) λ v h'=>J0e (ldF z (rs[a]).1.len (rs.take a)) ((rs[a]).1.due-(rs[a]).1.late) v/\Ex h h':=by
 have hb:=JC
 have wl:=y.w.len
 have q1:∀r∈rs.take a,0<r.1.gap/\0<=r.1.len:=λ r hr=>⟨(hg r (ZaT hr)).1,by have:=(nn r (ZaT hr)).2;omega⟩
 have q2:∀r∈rs.take a,0<r.1.gap/\0<=r.1.late:=λ r hr=>⟨(hg r (ZaT hr)).1,(nn r (ZaT hr)).1⟩
 have q3:∀r∈rs.take a,0<r.1.gap/\0<=r.1.late/\0<=r.1.len:=λ r hr=>⟨(q2 r hr).1,(q2 r hr).2,(q1 r hr).2⟩
 have lp:=(nn _ (ZR ha)).2
 rw[Joh]
 simp! [Jg0,Jg1]
 refine Jl9 (λ m σ h'=>Ex h h'/\∃(line:Int)(c:Option IV),σ=[Za (.ref D),Za (.int (a:Int)),Za (.int line),c]/\1<=line/\line<=ldF z (rs[a]).1.len (rs.take a) line/\(∀l,1<=l->l<line->l<ldF z (rs[a]).1.len (rs.take a) l) /\
  (line+(rs[a]).1.late<=(rs[a]).1.due->1<=m/\(ldF z (rs[a]).1.len (rs.take a) line=line∨102<=(m:Int)+cnt (rs.take a) line))) ?_ (m:=102) (by decide) ⟨.refl _,1,Zb,rfl,by omega,?_,λ l a b=>by omega,λ _=>?_⟩
 ·rintro m _ h1 ⟨x1,line,c,rfl,l1,lge,below,cn⟩
  have y1:=y.kp x1.kp
  obtain⟨j,ej,gj⟩:=y1.w.at_ a _ _ (Zc (show a<vs.length by omega)) (Zc ha)
  have av:atI vs (a:Int)=Za (.ref j):=Qc (by rw[Zc (show a<vs.length by omega),ej])
  simp! [true_and]
  rw[Qt (i:=D) (h1:=h1) rfl y1.d dlw (X9 _)]
  simp! [XB y1.d av,Jmq gj,decide_eq_true_eq,decide_eq_false_iff_not]
  refine⟨λ t=>?_,λ t=>?_⟩
  ·have fw:=few line l1 t
   obtain⟨m1,cn⟩:=cn t
   refine⟨m-1,by omega,?_⟩
   simp! [Jgg]
   have Z:∃z h',UpIs (fds (stB (rs.map (·.2)) a) (a+1) ((rs.map (·.2)).drop (a+1))) z/\Xw (k+5) [.ref D,.int (a:Int),.int line] h1=.ok (.int (z+(rs[a]).1.len+JF (rs.take a) line)) h'/\Ex h1 h':=Jvs (k:=k) (s:=line) y1 ha (x1.get h0) hg
   generalize Xw (k+5) [.ref D,.int (a:Int),.int line] h1=rF at Z ⊢
   obtain⟨z',h2,up',rfl,x2⟩:=Z
   rw[QW]
   have ez:=up'.uniq up
   subst ez
   have el:z'+(rs[a]).1.len+JF (rs.take a) line=ldF z' (rs[a]).1.len (rs.take a) line:=rfl
   rw[el]
   simp! [decide_eq_true_eq,decide_eq_false_iff_not]
   refine⟨λ le=>?_,λ gt=>?_⟩
   ·exact⟨.inr ⟨line,rfl,l1,by omega,by omega,below⟩,x1.trans x2⟩
   ·generalize hn:ldF z' (rs[a]).1.len (rs.take a) line=nx at *
    have gt:line<nx:=by omega
    have mono:∀l,line<=l->nx<=ldF z' (rs[a]).1.len (rs.take a) l:=λ l hl'=>by
     rw[<- hn]
     have:=Jel l1 hl' q1
     unfold ldF
     omega
    refine⟨x1.trans x2,nx,_,rfl,by omega,mono nx (by omega),λ l a1 a2=>?_,λ t2=>?_⟩
    ·by_cases hl':l<line
     ·exact below l a1 hl'
     ·have:=mono l (by omega)
      omega
    ·have cn:=cn.resolve_left (by omega)
     refine⟨by omega,?_⟩
     by_cases e:JF (rs.take a) line=JF (rs.take a) nx
     ·left
      unfold ldF at hn ⊢
      omega
     ·right
      have:=Jel l1 (show line<=nx by omega) q1
      have:=Jtk l1 (show line<=nx by omega) q1 (by omega)
      omega
  ·simp! [Jg2]
   exact⟨.inl ⟨rfl,λ l a1 a2=>below l a1 (by omega)⟩,x1⟩
 ·have:=Jkz (s:=1) q3
  unfold ldF
  omega
 ·have:=Jtl (s:=1) q2
  exact⟨by omega,.inr (by omega)⟩
end
def Fit (S:List RH)(r:RH)(W:List RH):Prop:=∃s,1<=s/\s+r.1.late<=r.1.due/\r.1.len+JF S s<=s /\
 ∀w∈W,∀b∈w.2,(∃t∈r::S,∃c∈t.2,c.1=b.1)->tn b+r.1.len+JF S s<=s
structure WorkF (r:RH):Prop where
 g:0<r.1.gap
 l:1<=r.1.len
 t:0<=r.1.late
 h:∀b∈r.2,0<=tn b/\tn b+1<=r.1.len
theorem Vm (r:RH)(S:List RH)(s:Int):JF (r::S) s=cmn s r.1*r.1.len+JF S s:=by
 unfold JF
 rw[Zs,Zbh]
theorem Jmc {S S':List RH}(p:S.Perm S')(s:Int):JF S s=JF S' s:=by
 induction p with
 | nil=>rfl
 | cons x _ ih=>rw[Vm,Vm,ih]
 | swap x y l=>rw[Vm,Vm,Vm,Vm];omega
 | trans _ _ a b=>rw[a,b]
theorem Fit.perm {S S' W W':List RH}{r:RH}(p:S.Perm S')(q:W.Perm W')(f:Fit S r W):Fit S' r W':=by
 obtain⟨s,a,b,c,d⟩:=f
 rw[Jmc p] at c d
 refine⟨s,a,b,c,λ w hw b' hb ⟨t,ht,e⟩=>d w (q.mem_iff.mpr hw) b' hb ⟨t,?_,e⟩⟩
 rcases ZB.mp ht with rfl|ht
 ·exact Zv
 ·exact Zt _ (p.mem_iff.mpr ht)
theorem Juo {s:Int}{d:WD}(h1:1<=s)(hg:0<d.gap)(hl:0<=d.late):1<=cmn s d:=by
 unfold cmn rup
 rw[if_pos h1]
 exact(ZdX hg).mpr (by omega)
theorem Fit.lower {S W:List RH}{r x:RH}(hx:WorkF x)(f:Fit (x::S) r W):Fit S r (x::W):=by
 obtain⟨s,a,b,c,d⟩:=f
 have cp:=Juo a hx.g hx.t
 have hl:=hx.l
 have m:x.1.len<=cmn s x.1*x.1.len:=by
  have:=ZbH cp (show 0<=x.1.len by omega)
  omega
 rw[Vm] at c
 refine⟨s,a,b,by omega,λ w hw b' hb ⟨t,ht,e⟩=>?_⟩
 rcases ZB.mp hw with rfl|hw
 ·have:=(hx.h b' hb).2
  omega
 ·have:=d w hw b' hb ⟨t,by
   rcases ZB.mp ht with rfl|ht
   ·exact Zv
   ·exact Zt _ (Zt _ ht),e⟩
  rw[Vm] at this
  omega
theorem Fit.lowers {S:List RH}{r:RH}:∀(X:List RH){W:List RH},(∀x∈X,WorkF x)->Fit (X++S) r W->Fit S r (X++W)
 | [],_,_,f=>f
 | x::X,W,hx,f=>by
  have f1:=Fit.lower (S:=X++S) (hx x Zv) f
  have f2:=Fit.lowers X (W:=x::W) (λ y hy=>hx y (Zt _ hy)) f1
  exact f2.perm (.refl _) Zbe
def JR:List RH->List RH->Prop
 | _,[]=>True
 | S,r::W=>Fit S r W/\JR (S++[r]) W
theorem JR.snoc:∀{W S:List RH}{r:RH},JR S (W++[r])->Fit (S++W) r []
 | [],S,r,h=>by rw[ZaK];exact h.1
 | w::W,S,r,h=>by
  have:=JR.snoc (W:=W) (S:=S++[w]) h.2
  rw[ZF] at this
  exact this
theorem JR.at_:∀{W S:List RH},JR S W->∀(A B:List RH)(r:RH),W=A++r::B->Fit (S++A) r B
 | _,S,h,[],B,r,e=>by subst e;rw[ZaK];exact h.1
 | _,S,h,a::A,B,r,e=>by
  subst e
  have:=JR.at_ (W:=A++r::B) (S:=S++[a]) h.2 A B r rfl
  rw[ZF] at this
  exact this
theorem JR.above {S S':List RH}(p:S.Perm S'):∀{W:List RH},JR S W->JR S' W
 | [],_=>trivial
 | _::_,h=>⟨h.1.perm p (.refl _),JR.above (p.append (.refl _)) h.2⟩
theorem Jhh {S S':List Nat}(n1:S.Nodup)(m1:S'.Nodup)(sub:∀x∈S',x∈S):(S.filter (λ x=>decide (x∉S'))++S').Perm S:=by
 refine(Za8 (Zas.mpr ⟨n1.filter _,m1,λ x h1 y h2 z=>?_⟩) n1).mpr λ x=>?_
 ·subst z
  exact of_decide_eq_true (ZL.mp h1).2 h2
 ·simp only[ZO,ZL,decide_eq_true_eq]
  constructor
  ·rintro(h|h)
   ·exact h.1
   ·exact sub x h
  ·intro h
   by_cases hx:x∈S'
   ·exact .inr hx
   ·exact .inl ⟨h,hx⟩
theorem Fit.sub {f:Nat->RH}{S W S' W':List Nat}{a:Nat}(hw:∀x∈S,WorkF (f x))(f0:Fit (S.map f) (f a) (W.map f))(p:(S'++W').Perm (S++W))(nd:(S++W).Nodup)(sub:∀x∈S',x∈S):Fit (S'.map f) (f a) (W'.map f):=by
 have nd':=p.nodup_iff.mpr nd
 obtain⟨n1,n2,n3⟩:=Zas.mp nd
 obtain⟨m1,m2,m3⟩:=Zas.mp nd'
 have mm:∀x,(x∈S'∨x∈W')↔(x∈S∨x∈W):=λ x=>by
  have:=p.mem_iff (a:=x)
  rwa [ZO,ZO] at this
 have p1:=Jhh n1 m1 sub
 have p2:(S.filter (λ x=>decide (x∉S'))++W).Perm W':=by
  refine(Za8 (Zas.mpr ⟨n1.filter _,n2,λ x h1 y h2 z=>?_⟩) m2).mpr λ x=>?_
  ·subst z
   exact n3 x (ZL.mp h1).1 x h2 rfl
  ·simp only[ZO,ZL,decide_eq_true_eq]
   constructor
   ·rintro(⟨h1,h2⟩|h)
    ·exact((mm x).mpr (.inl h1)).resolve_left h2
    ·refine((mm x).mpr (.inr h)).resolve_left λ z=>?_
     exact n3 x (sub x z) x h rfl
   ·intro h
    have hx:x∉S':=λ z=>m3 x z x h rfl
    rcases(mm x).mp (.inr h) with q|q
    ·exact .inl ⟨q,hx⟩
    ·exact .inr q
 have f1:=f0.perm ((p1.map f).symm) (.refl _)
 rw[Zb0] at f1
 have f2:=f1.lowers _ λ x hx=>by
  obtain⟨y,hy,rfl⟩:=Z6.mp hx
  exact hw y (ZL.mp hy).1
 rw[<- Zb0] at f2
 exact f2.perm (.refl _) (p2.map f)
theorem Jhb {P:Nat->Prop}:∀l:List Nat,(∃x∈l,P x)->∃A a C,l=A++a::C/\P a/\∀c∈C,¬P c
 | [],⟨_,h,_⟩=>by cases h
 | x::l,h=>by
  by_cases q:∃x∈l,P x
  ·obtain⟨A,a,C,e,h1,h2⟩:=Jhb l q
   exact⟨x::A,a,C,by rw[e];rfl,h1,h2⟩
  ·refine⟨[],x,l,rfl,?_,λ c hc z=>q ⟨c,hc,z⟩⟩
   obtain⟨y,hy,z⟩:=h
   rcases ZB.mp hy with rfl|hy
   ·exact z
   ·exact absurd ⟨y,hy,z⟩ q
theorem X8 {l:List Nat}{a:Nat}(nl:l.Nodup)(ha:a∈l):(a::l.filter λ b=>decide (b≠a)).Perm l:=by
 refine(Za8 (ZaL.mpr ⟨λ z=>?_,nl.filter _⟩) nl).mpr λ x=>?_
 ·exact of_decide_eq_true (ZL.mp z).2 rfl
 ·simp only[ZB,ZL,decide_eq_true_eq]
  constructor
  ·rintro(rfl|z)
   ·exact ha
   ·exact z.1
  ·intro z
   by_cases q:x=a
   ·exact .inl q
   ·exact .inr ⟨z,q⟩
structure Stuck (f:Nat->RH)(n:Nat)(left weak:List Nat):Prop where
 p:(left++weak).Perm (Z8 n)
 s:left.Pairwise (· < ·)
 e:left≠[]
 all:JR (left.map f) (weak.map f)
 no:∀a∈left,¬Fit ((left.filter λ b=>decide (b≠a)).map f) (f a) (weak.map f)
 w:∀x,x<n->WorkF (f x)
section
variable {f:Nat->RH}{n:Nat}{left weak:List Nat}
theorem Stuck.nd (s:Stuck f n left weak):(left++weak).Nodup:=s.p.nodup_iff.mpr ZcT
theorem Stuck.nl (s:Stuck f n left weak):left.Nodup:=(Zas.mp s.nd).1
theorem Stuck.lt (s:Stuck f n left weak){x:Nat}(h:x∈left∨x∈weak):x<n:=Zar.mp (s.p.mem_iff.mp (ZO.mpr h))
theorem Stuck.low (s:Stuck f n left weak){A C:List Nat}{a:Nat}(p:(A++a::C).Perm (Z8 n))(ha:a∈left)(hC:∀c∈C,c∉left):¬Fit (A.map f) (f a) (C.map f):=λ h=>by
 have pc:=X8 s.nl ha
 have p0:(a::(A++C)).Perm (a::((left.filter λ b=>decide (b≠a))++weak)):=(Zbe.symm.trans p).trans (s.p.symm.trans (pc.append_right weak).symm)
 have p1:=(Zdx p0).symm
 have nd:(A++C).Nodup:=(ZaL.mp (p.nodup_iff.mpr ZcT |> List.perm_middle.nodup_iff.mp)).2
 refine s.no a ha (Fit.sub (λ x hx=>s.w x (Zar.mp (p.mem_iff.mp (Zab _ hx)))) h p1 nd λ x hx=>?_)
 rcases ZO.mp (p1.mem_iff.mp (Zab _ hx)) with q|q
 ·exact q
 ·exact absurd (ZL.mp hx).1 (hC x q)
theorem Stuck.some (s:Stuck f n left weak){L B:List Nat}(p:(L++B).Perm (Z8 n))(sub:∀x∈left,x∈L)(len:left.length<L.length):∃a∈L,a∉left/\Fit ((L.filter λ b=>decide (b≠a)).map f) (f a) (B.map f):=by
 have nd:(L++B).Nodup:=p.nodup_iff.mpr ZcT
 have nL:=(Zas.mp nd).1
 have ex:∃x∈weak,x∈L:=by
  refine Classical.byContradiction λ q=>?_
  have e0:L.filter (λ x=>decide (x∉left))=[]:=List.filter_eq_nil_iff.mpr λ x hx=>by
   rw[decide_eq_true_eq,Classical.not_not]
   rcases ZO.mp (s.p.mem_iff.mpr (p.mem_iff.mp (Zab _ hx))) with h|h
   ·exact h
   ·exact absurd ⟨x,h,hx⟩ q
  have:=(Jhh nL s.nl sub).length_eq
  rw[e0,Za9] at this
  omega
 obtain⟨A,a,C,rfl,ha,hC⟩:=Jhb weak ex
 have fit:=s.all.at_ (A.map f) (C.map f) (f a) (by rw[Zb0,Zs])
 rw[<- Zb0] at fit
 have snd:=s.nd
 have pc:=X8 nL ha
 have p0:(a::((L.filter λ b=>decide (b≠a))++B)).Perm (a::((left++A)++C)):=((pc.append_right B).trans p).trans (s.p.symm.trans (by rw[<- ZF];exact Zbe))
 have p1:=Zdx p0
 have nd1:((left++A)++C).Nodup:=by
  have:(a::((left++A)++C)).Nodup:=(p0.nodup_iff.mp ((pc.append_right B).nodup_iff.mpr nd))
  exact(ZaL.mp this).2
 refine⟨a,ha,λ z=>(Zas.mp snd).2.2 a z a (Z4 _ Zv) rfl,Fit.sub (λ x hx=>s.w x (s.lt ?_)) fit p1 nd1 λ x hx=>?_⟩
 ·rcases ZO.mp hx with q|q
  ·exact .inl q
  ·exact .inr (Zab _ q)
 ·rcases ZO.mp (p1.mem_iff.mp (Zab _ hx)) with q|q
  ·exact q
  ·exact absurd (ZL.mp hx).1 (hC x q)
end
theorem Jzz (F:List (Nat×Hd)):∃z,UpIs F z:=by
 rcases Jnt F with⟨e1,_⟩|⟨p,hp,_,al⟩
 ·exact⟨0,.inl ⟨e1,rfl⟩⟩
 ·exact⟨_,.inr ⟨p,hp,rfl,al⟩⟩
def zU (rs:List RH)(a:Nat):Int:=Classical.choose (Jzz (fds (stB (rs.map (·.2)) a) (a+1) ((rs.map (·.2)).drop (a+1))))
theorem Jxi (rs:List RH)(a:Nat):UpIs (fds (stB (rs.map (·.2)) a) (a+1) ((rs.map (·.2)).drop (a+1))) (zU rs a):=Classical.choose_spec (Jzz _)
theorem Jvv {st:Hd->Bool}{l:List (List Hd)}{t:Int}:t∈tns st l↔∃hs∈l,∃b∈hs,st b=Ze/\tn b=t:=by
 unfold tns
 rw[Zck]
 constructor
 ·rintro⟨m,hm,ht⟩
  obtain⟨hs,h1,rfl⟩:=Z6.mp hm
  obtain⟨b,hb,e⟩:=Z6.mp ht
  obtain⟨h2,h3⟩:=ZL.mp hb
  exact⟨hs,h1,b,h2,h3,e⟩
 ·rintro⟨hs,h1,b,h2,h3,e⟩
  exact⟨_,Z6.mpr ⟨hs,h1,rfl⟩,Z6.mpr ⟨b,ZL.mpr ⟨h2,h3⟩,e⟩⟩
theorem Jt7 {rs:List RH}{a:Nat}{r:RH}(e:rs[a]?=Za r)(b:Hd):stB (rs.map (·.2)) a b=Ze↔∃t∈r::rs.take a,∃c∈t.2,c.1=b.1:=by
 rw[<- J1p,ZbG,<-List.map_take,List.take_succ,e]
 unfold sgs
 constructor
 ·rintro⟨x,hx,q⟩
  obtain⟨m,hm,hx⟩:=Zck.mp hx
  obtain⟨hs,h1,rfl⟩:=Z6.mp hm
  obtain⟨t,ht,rfl⟩:=Z6.mp h1
  obtain⟨c,hc,rfl⟩:=Z6.mp hx
  refine⟨t,?_,c,hc,of_decide_eq_true q⟩
  rcases ZO.mp ht with z|z
  ·exact Zt _ z
  ·rw[show t=r from ZI.mp z]
   exact Zv
 ·rintro⟨t,ht,c,hc,q⟩
  refine⟨c.1,Zck.mpr ⟨_,Z6.mpr ⟨t.2,Z6.mpr ⟨t,?_,rfl⟩,rfl⟩,Z6.mpr ⟨c,hc,rfl⟩⟩,decide_eq_true q⟩
  rcases ZB.mp ht with rfl|z
  ·exact Z4 _ (ZI.mpr rfl)
  ·exact Zab _ z
theorem J0d {rs:List RH}{a:Nat}{r:RH}{y:Int}(e:rs[a]?=Za r)(hw:∀x∈rs,WorkF x) :
  zU rs a<=y↔0<=y/\∀w∈rs.drop (a+1),∀b∈w.2,(∃t∈r::rs.take a,∃c∈t.2,c.1=b.1)->tn b<=y:=by
 have mF:∀t,(∃p∈fds (stB (rs.map (·.2)) a) (a+1) ((rs.map (·.2)).drop (a+1)),tn p.2=t)↔∃w∈rs.drop (a+1),∃b∈w.2,(∃t∈r::rs.take a,∃c∈t.2,c.1=b.1)/\tn b=t:=λ t=>by
  rw[<- Z6 (f:=λ p:Nat×Hd=>tn p.2),Jof,Jvv,<-Zew]
  constructor
  ·rintro⟨hs,h1,b,h2,h3,h4⟩
   obtain⟨w,hw',rfl⟩:=Z6.mp h1
   exact⟨w,hw',b,h2,(Jt7 e b).mp h3,h4⟩
  ·rintro⟨w,h1,b,h2,h3,h4⟩
   exact⟨w.2,Z6.mpr ⟨w,h1,rfl⟩,b,h2,(Jt7 e b).mpr h3,h4⟩
 have z0:0<=zU rs a/\∀p∈fds (stB (rs.map (·.2)) a) (a+1) ((rs.map (·.2)).drop (a+1)),tn p.2<=zU rs a:=by
  rcases Jxi rs a with⟨e0,ez⟩|⟨p,hp,ez,al⟩
  ·rw[e0,ez]
   exact⟨by omega,λ p hp=>by cases hp⟩
  ·obtain⟨w,h1,b,h2,_,h4⟩:=(mF _).mp ⟨p,hp,rfl⟩
   have:=((hw w (ZcZ h1)).h b h2).1
   exact⟨by omega,al⟩
 constructor
 ·intro le
  refine⟨by omega,λ w h1 b h2 h3=>?_⟩
  obtain⟨p,hp,q⟩:=(mF (tn b)).mpr ⟨w,h1,b,h2,h3,rfl⟩
  have:=z0.2 p hp
  omega
 ·rintro⟨y0,al⟩
  rcases Jxi rs a with⟨e0,ez⟩|⟨p,hp,ez,_⟩
  ·omega
  ·obtain⟨w,h1,b,h2,h3,h4⟩:=(mF _).mp ⟨p,hp,rfl⟩
   have:=al w h1 b h2 h3
   omega
theorem Ju1 {rs:List RH}{a:Nat}{r:RH}(e:rs[a]?=Za r)(hw:∀x∈rs,WorkF x) :
  Fit (rs.take a) r (rs.drop (a+1))↔∃s,1<=s/\s+r.1.late<=r.1.due/\ldF (zU rs a) r.1.len (rs.take a) s<=s:=by
 unfold Fit ldF
 refine exists_congr λ s=>and_congr_right λ _=>and_congr_right λ _=>?_
 have:=J0d (y:=s-r.1.len-JF (rs.take a) s) e hw
 constructor
 ·rintro⟨h1,h2⟩
  have:=this.mpr ⟨by omega,λ w q1 b q2 q3=>by have:=h2 w q1 b q2 q3;omega⟩
  omega
 ·intro h1
  obtain⟨q1,q2⟩:=this.mp (by omega)
  exact⟨by omega,λ w p1 b p2 p3=>by have:=q2 w p1 b p2 p3;omega⟩
structure Dw (rs:List RH)(top N:Int):Prop where
 w:∀r∈rs,WorkF r
 s:∀r∈rs,1<=r.1.due/\r.1.due<=r.1.gap/\r.1.gap<=9000000000000000/\r.1.len<=90000000000000000
 o:∀r∈rs,HsOk r.1.len r.2
 t:∀r∈rs,r.1.due<=top/\top+r.1.late<=N*r.1.gap
 n:N*(rs.length:Int)<=80
 n0:0<=N
 l:rs.length<=12
theorem Dw.perm {rs rs':List RH}{top N:Int}(q:Dw rs top N)(p:rs.Perm rs'):Dw rs' top N :=
 ⟨λ r h=>q.w r (p.mem_iff.mpr h),λ r h=>q.s r (p.mem_iff.mpr h),λ r h=>q.o r (p.mem_iff.mpr h),λ r h=>q.t r (p.mem_iff.mpr h),p.length_eq▸q.n,q.n0,p.length_eq▸q.l⟩
theorem Dw.gaps {rs:List RH}{top N:Int}(q:Dw rs top N):Jug rs:=λ r hr=>by
 have t60:(9000000000000000:Int)<=10^60:=by decide +kernel
 obtain⟨a1,a2,a3,a4⟩:=q.s r hr
 have a5:=(q.w r hr).g
 have a6:=(q.w r hr).l
 exact⟨by omega,Jo7 (by omega) (by omega),by omega⟩
section
variable {k:Nat}{h:IH}{D a:Nat}{vs:List IV}{rs:List RH}{top N:Int}
theorem Jq5 (y:Dty h D vs rs)(t:h[0]?=Za (.tab "longest_hold"))(q:Dw rs top N)(ha:a<rs.length) :
  WR (VR (k+6) [.ref D,.int (a:Int)] h) λ v h'=>((v=.non/\¬Fit (rs.take a) rs[a] (rs.drop (a+1)))∨((∃x,v=.int x)/\Fit (rs.take a) rs[a] (rs.drop (a+1))))/\Ex h h':=by
 have e:=Zc ha
 have few:∀s,1<=s->s+(rs[a]).1.late<=(rs[a]).1.due->cnt (rs.take a) s<=100:=λ s s1 s2=>by
  have b1:=(q.t _ (ZR ha)).1
  have b2:=(q.w _ (ZR ha)).t
  have:=Jp1 N ((rs.take a).map λ r=>cmn s r.1) λ x hx=>by
   obtain⟨r,hr,rfl⟩:=Z6.mp hx
   have hr:=ZaT hr
   have c1:=(q.t r hr).2
   unfold cmn
   rw[if_pos s1]
   exact Jt2 (q.w r hr).g (by omega)
  rw[Zo,Zad] at this
  have m:=ZbH (show((min a rs.length:Nat):Int)<=(rs.length:Int) by omega) q.n0
  have n:=q.n
  rw[Int.mul_comm] at n
  exact Zci this (Zci m (Zci n (by decide)))
 refine WR.mono (Jnl (k:=k) y ha t q.gaps (λ r hr=>⟨(q.w r hr).t,(q.w r hr).l⟩) (Jxi rs a) ((J0d e q.w).mp (Zb5 _)).1 few) ?_
 rintro v h' ⟨an,x⟩
 refine⟨?_,x⟩
 rw[Ju1 e q.w]
 rcases an with⟨rfl,no⟩|⟨y,rfl,y1,y2,y3,_⟩
 ·refine .inl ⟨rfl,λ ⟨s,s1,s2,s3⟩=>?_⟩
  have:=no s s1 (by omega)
  omega
 ·exact .inr ⟨⟨y,rfl⟩,y,y1,by omega,by omega⟩
end
abbrev ni (l:List Nat):List IV:=(l.map λ n:Nat=>(n:Int)).map IV.int
def rd:RH:=⟨⟨⟨#[]⟩,0,0,0,0⟩,[]⟩
def pk (rs:List RH)(os:List Nat):List RH:=os.map λ n=>rs.getD n rd
theorem Jso (rs:List RH):pk rs (Z8 rs.length)=rs:=by
 refine ZbY λ i=>?_
 by_cases hi:i<rs.length
 ·simp[pk,hi,Z3]
 ·simp[pk,hi]
theorem Jh2 {rs:List RH}{os:List Nat}(p:os.Perm (Z8 rs.length)):(pk rs os).Perm rs:=by
 have:=p.map λ n=>rs.getD n rd
 rw[show(Z8 rs.length).map (λ n=>rs.getD n rd)=rs from Jso rs] at this
 exact this
theorem Dw.crowd {rs:List RH}{top N:Int}(q:Dw rs top N):Jk5 (rs.map (·.1))<=80:=by
 by_cases hn:rs=[]
 ·subst hn
  exact(by decide:(0:Int)<=80)
 have pos:0<rs.length:=Zdg.mpr hn
 have ht:topD (rs.map (·.1))<=top:=by
  unfold topD
  rw[if_neg (by simpa using hn)]
  refine Jt9 _ _ _ (by rw[Zo,Zo];exact pos) λ j hj=>?_
  rw[Zo,Zo] at hj
  have e:((rs.map (·.1)).map (·.due)).getD j 0=(rs[j]).1.due:=by
   rw[Z3,Z0,Z0,Zc hj];rfl
  show((rs.map (·.1)).map (·.due)).getD j 0<=_
  rw[e]
  exact(q.t _ (ZR hj)).1
 have:=Jp1 N ((rs.map (·.1)).map λ d=>rup (topD (rs.map (·.1))+d.late) d.gap) λ x hx=>by
  obtain⟨d,hd,rfl⟩:=Z6.mp hx
  obtain⟨r,hr,rfl⟩:=Z6.mp hd
  have f1:=(q.t r hr).2
  exact Jt2 (q.w r hr).g (by omega)
 rw[Zo,Zo] at this
 have n:=q.n
 rw[Int.mul_comm] at n
 unfold Jk5
 exact Zci this n
structure D71 (h:IH)(D:Nat)(rs:List RH)(top N:Int):Prop where
 y:∃vs,Dty h D vs rs
 t:h[0]?=Za (.tab "longest_hold")
 q:Dw rs top N
 nd:(rs.map λ r=>r.1.name).Nodup
theorem D71.kp {h h':IH}{D:Nat}{rs:List RH}{top N:Int}(k:Kp h h')(d:D71 h D rs top N):D71 h' D rs top N:=⟨d.y.imp λ _ y=>y.kp k,k _ _ d.t,d.q,d.nd⟩
section
variable {k:Nat}{h:IH}
theorem Jk8 {vs:List IV}{rs:List RH}{top N:Int}{i:Nat}(hi:h[i]?=Za (.lst vs))(w:AllH h vs rs)(t:h[0]?=Za (.tab "longest_hold"))(q:Dw rs top N)(nd:(rs.map λ r=>r.1.name).Nodup) :
  WR (QX (k+3) [.ref h.length,.ref i] (h++[.ins "Duty" []])) λ v h'=>v=.non/\Ex h h'/\D71 h' h.length rs top N:=by
 have hl:=q.l
 refine WR.mono (Jn8 hi w.w (by rwa [Zdn]) (by rw[Zo];omega) (λ d hd=>by
  obtain⟨r,hr,rfl⟩:=Z6.mp hd
  exact⟨(q.gaps r hr).1,(q.gaps r hr).2.1⟩) q.crowd) ?_
 rintro _ _ ⟨rfl,g,rfl⟩
 exact⟨rfl,.cons _ _ _,⟨vs,Jr,w.kp (Ex.cons _ _ _).kp,hl,λ r hr=>⟨(q.o r hr).few,λ a ha=>((q.o r hr).each a ha).1⟩⟩,(Ex.cons _ _ _).get t,q,nd⟩
theorem Jxp {i n:Nat}{ls:List Int}(e:h[i]?=Za (.lst (ls.map .int))):toD h (n+1) (.ref i)=Za (.list (ls.map Zce)):=by
 rw[Jp4 e]
 have:∀ls:List Int,(ls.map IV.int).mapM (toD h n)=Za (ls.map Zce):=by
  intro ls
  induction ls with
  | nil=>rfl
  | cons a r ih =>
   have e:toD h n (.int a)=Za (.int a):=by cases n<;>rfl
   rw[Zs,Zdu,e,ih]
   rfl
 rw[this]
 rfl
theorem Jo5:∀as:List Int,Zau (as.map Zce)=Ze
 | []=>rfl
 | _::r=>by
  rw[Zs,Zau,Jo5 r]
  simp[Zbk]
theorem Jty {i j:Nat}{ls:List Int}(hi:h[i]?=Za (.lst (ls.map .int)))(hj:h[j]?=Za (.lst (ls.map .int))):cNe (.ref i) (.ref j) h=.ok (.bl Zj) h :=
 Jyu (Jxp hi) (Jxp hj) (by rw[Zbk];exact Jo5 ls)
theorem Jpv {os:List Nat}{n:Nat}(p:os.Perm (Z8 n)):Xk (os.map λ n:Nat=>(n:Int))=(Z8 n).map λ n:Nat=>(n:Int):=by
 refine(Jlq ((p.map _).symm) ?_).symm
 rw[List.pairwise_map]
 exact List.pairwise_le_range.imp λ h=>by omega
theorem Jln (m:Nat):rngI 0 (m:Int)=ni (Z8 m):=by rw[Jpk];simp
theorem Je6 {D O:Nat}{rs:List RH}{os:List Nat}{top N:Int}(d:D71 h D rs top N)(hO:h[O]?=Za (.lst (ni os)))(p:os.Perm (Z8 rs.length)) :
  WR (Jav (k+4) [.ref D,.ref O] h) λ v h'=>∃D',v=.ref D'/\Ex h h'/\D71 h' D' (pk rs os) top N:=by
 have hb:=JC
 obtain⟨vs,gD,w,few,_⟩:=d.y
 have wl:=w.len
 have lo:os.length=rs.length:=by rw[p.length_eq,Zae]
 have ln:(ni os).length=os.length:=by simp
 rw[Jeq]
 simp! [Ja9,Jlv hO]
 refine WR.mono (Qs (h:=h) (xs:=ni os) (chk:=λ h'=>h'[O]?=Za (.lst (ni os))) (f:=λ _=>.bl Ze) ?_ (by omega) (λ h2 q=>q _ _ hO) ?_) ?_
 ·simp! [Qk,hO]
 ·intro v hv h2 q
  obtain⟨a,ha,rfl⟩:=Z6.mp hv
  simp! [Jax,Je4]
  exact .refl _
 ·rintro _ _ ⟨rfl,g,rfl⟩
  have x1:Ex h (h++IX.lst ((ni os).map λ _=>.bl Ze)::g):=.cons _ _ _
  rw[all_map (f:=λ _=>Ze) Jr]
  generalize h++IX.lst ((ni os).map λ _=>.bl Ze)::g=h1 at x1
  have at1:((ni os).all λ _=>Ze)=Ze:=by simp
  have hO1:=x1.get hO
  have gD1:=x1.get gD
  simp! [at1,Jba]
  have es:Xl (.ref O) h1=.ok (.ref h1.length) (h1++[.lst (ni (Z8 rs.length))]):=by
   dsimp only[Xl]
   rw[hO1]
   dsimp only
   rw[if_pos (by omega),srtI,Vv]
   dsimp only
   rw[Jpv p]
  rw[es,QW]
  have x2:Ex h1 (h1++[IX.lst (ni (Z8 rs.length))]):=.one _ _
  dsimp! [Jw5]
  rw[Qt (i:=D) (h1:=h1++[IX.lst (ni (Z8 rs.length))]) rfl (x2.get gD1) (by kernel_rfl) (Jbk _)]
  simp! [Jea (x2.get gD1),wl,Zde]
  refine⟨by omega,?_⟩
  rw[Jln]
  have x3:Ex (h1++[IX.lst (ni (Z8 rs.length))]) (h1++[IX.lst (ni (Z8 rs.length))]++[IX.lst (ni (Z8 rs.length))]):=.one _ _
  rw[Jty (x3.get Jw) Jw]
  have x13:=(x1.trans x2).trans x3
  generalize h1++[IX.lst (ni (Z8 rs.length))]++[IX.lst (ni (Z8 rs.length))]=h3 at x13
  clear x3 x2 x1 hO1 gD1 es
  have hO3:=x13.get hO
  have gD3:=x13.get gD
  simp! [Jbb]
  refine WR.mono (Qs (h:=h3) (xs:=ni os) (chk:=λ h'=>h'[O]?=Za (.lst (ni os))) (f:=λ v=>match v with|.int n=>vs.getD n.toNat .non|_=>.non) ?_ (by omega) (λ h2 q=>q _ _ hO3) ?_) ?_
  ·simp! [Qk,hO3]
  ·intro v hv h4 q
   obtain⟨a,ha,rfl⟩:=Z6.mp hv
   obtain⟨n,hn,rfl⟩:=Z6.mp ha
   have hn':n<vs.length:=by rw[wl];exact Zar.mp (p.mem_iff.mp hn)
   have ea:atI vs (n:Int)=Za vs[n]:=Qc (Zc hn')
   simp only[Zs,ZaB,ZS,Zai,ZaS]
   simp! [Jay,JB (q _ _ gD3),dl0,ea]
   exact⟨by simp[Z3,hn'],.refl _⟩
  ·rintro _ _ ⟨rfl,g4,rfl⟩
   generalize hvs:(ni os).map (λ v=>match v with|.int n=>vs.getD n.toNat IV.non|_=>IV.non)=vs'
   have x4:Ex h3 (h3++IX.lst vs'::g4):=.cons _ _ _
   have w4:AllH (h3++IX.lst vs'::g4) vs' (pk rs os):=by
    refine⟨by rw[<- hvs];simp[pk],λ i v r a b=>?_⟩
    have hi:i<os.length:=by
     have:=(Zn.mp b).1
     simpa [pk] using this
    have ho:os[i]<rs.length:=Zar.mp (p.mem_iff.mp (ZR hi))
    have ho':os[i]<vs.length:=by omega
    have er:r=rs[os[i]]:=by
     simp only[pk,Z0,Zc hi,Zbz,ZaI,Z3,Zc ho,Zcj] at b
     exact b.symm
    have ev:v=vs[os[i]]:=by
     rw[<- hvs] at a
     simp only[Z0,Zc hi,Zbz,ZaI,ZcA,Z3,Zc ho',Zcj] at a
     exact a.symm
    obtain⟨j,e1,e2⟩:=w.at_ os[i] v r (by rw[ev,Zc ho']) (by rw[er,Zc ho])
    exact⟨j,e1,x4.get (x13.get e2)⟩
   refine WR.mono (Jk8 (k:=k) Jr w4 (x4.get (x13.get d.t)) (d.q.perm (Jh2 p).symm) (((Jh2 p).map _).nodup_iff.mpr d.nd)) ?_
   rintro _ h5 ⟨rfl,x5,d5⟩
   exact⟨rfl,(x13.trans x4).trans x5,d5⟩
end
def neV (a:Nat)(v:IV):Bool:=match v with
 | .int n=>decide (n≠(a:Int))
 | _=>Zj
theorem Jyv (a:Nat):∀l:List Nat,((ni l).filter (neV a)).map (λ v=>v)=ni (l.filter λ b=>decide (b≠a))
 | []=>rfl
 | b::l=>by
  have ih:=Jyv a l
  by_cases q:b=a
  ·have e1:neV a (.int (b:Int))=Zj:=by unfold neV;simp[q]
   have e2:decide (b≠a)=Zj:=by simp[q]
   rw[ZbI (p:=λ b=>decide (b≠a)) (a:=b) (by rw[e2];decide)]
   show((IV.int (b:Int)::ni l).filter (neV a)).map (λ v=>v)=_
   rw[ZbI (by rw[e1];decide)]
   exact ih
  ·have e1:neV a (.int (b:Int))=Ze:=by unfold neV;exact decide_eq_true (by omega)
   have e2:decide (b≠a)=Ze:=by simp[q]
   rw[ZbJ (p:=λ b=>decide (b≠a)) (a:=b) e2]
   show((IV.int (b:Int)::ni l).filter (neV a)).map (λ v=>v)=_
   rw[ZbJ e1,Zs,ih]
   rfl
theorem Jio {k:Nat}{h:IH}{D n:Nat}{A B rs:List RH}{r:RH}{top N:Int}(d:D71 h D rs top N)(e:rs=A++r::B)(hn:n=A.length) :
  WR (VR (k+6) [.ref D,.int (n:Int)] h) λ v h'=>((v=.non/\¬Fit A r B)∨((∃x,v=.int x)/\Fit A r B))/\Ex h h':=by
 subst e hn
 obtain⟨vs,y⟩:=d.y
 have:=Jq5 (k:=k) (a:=A.length) y d.t d.q (by simp)
 simpa using this
theorem Jsf {left weak:List Nat}{a n:Nat}(p:(left++weak).Perm (Z8 n))(nl:left.Nodup)(ha:a∈left):((left.filter λ b=>decide (b≠a))++a::weak).Perm (Z8 n):=by
 refine Zbe.trans (.trans ?_ p)
 rw[<- ZH]
 refine List.Perm.append_right weak ((Za8 (ZaL.mpr ⟨λ z=>?_,nl.filter _⟩) nl).mpr λ x=>?_)
 ·exact of_decide_eq_true (ZL.mp z).2 rfl
 ·simp only[ZB,ZL,decide_eq_true_eq]
  constructor
  ·rintro(rfl|z)
   ·exact ha
   ·exact z.1
  ·intro z
   by_cases q:x=a
   ·exact .inl q
   ·exact .inr ⟨z,q⟩
section
variable {k:Nat}{h:IH}{D L W a:Nat}{rs:List RH}{top N:Int}{left weak:List Nat}
theorem Jyr (d:D71 h D rs top N)(hL:h[L]?=Za (.lst (ni left)))(hW:h[W]?=Za (.lst (ni weak)))(p:(left++weak).Perm (Z8 rs.length))(nl:left.Nodup)(ha:a∈left) :
  WR (Jaw (k+7) [.ref D,.ref L,.ref W,.int (a:Int)] h) λ v h'=>(∃b,v=.bl b/\(b=Ze↔Fit (pk rs (left.filter λ b=>decide (b≠a))) (rs.getD a rd) (pk rs weak)))/\Ex h h':=by
 have hb:=JC
 have l12:=d.q.l
 have ll:left.length+weak.length=rs.length:=by rw[<- ZE,p.length_eq,Zae]
 have lf:=ZbV (λ b=>decide (b≠a)) left
 have ln:(ni left).length=left.length:=by simp
 rw[Jer]
 simp! [Jbc]
 refine WR.mono (Jie (h:=h) (xs:=ni left) (chk:=λ h'=>h'[L]?=Za (.lst (ni left))) (p:=neV a) (f:=λ v=>v) ?_ (by omega) (λ h2 q=>q _ _ hL) ?_ ?_) ?_
 ·simp! [Qk,hL]
 ·intro v hv h2 q
  obtain⟨n,hn,rfl⟩:=Z6.mp hv
  simp only[Zs,ZaB,ZS,Zai,ZaS]
  simp! [Ja0,neV]
  exact⟨by simp,.refl _⟩
 ·intro v hv _ h2 q
  simp! [Jaz]
  exact .refl _
 ·rintro _ _ ⟨rfl,g,rfl⟩
  rw[Jyv]
  generalize hst:left.filter (λ b=>decide (b≠a))=st at lf ⊢
  have x1:Ex h (h++IX.lst (ni st)::g):=.cons _ _ _
  have gS:(h++IX.lst (ni st)::g)[h.length]?=Za (.lst (ni st)):=Jr
  generalize h++IX.lst (ni st)::g=h1 at x1 gS
  have d1:=d.kp x1.kp
  obtain⟨vs,y1⟩:=d1.y
  have lns:(ni st).length=st.length:=by simp
  have lnw:(ni weak).length=weak.length:=by simp
  simp! [Jbd]
  rw[Qt (i:=D) (h1:=h1) rfl y1.d (by kernel_rfl) (Jbu _)]
  simp! [VM,Yd]
  refine⟨by simp;omega,ni st,grow gS,[.int (a:Int)],Jw,by simp;omega,_,Jw,ni weak,grow (grow (x1.get hW)),by simp;omega,?_⟩
  have x2:Ex h1 (h1++[IX.lst [IV.int (a:Int)]]++[IX.lst (ni st++[IV.int (a:Int)])]++[IX.lst (ni st++[IV.int (a:Int)]++ni weak)]):=((Ex.one _ _).trans (.one _ _)).trans (.one _ _)
  have eo:ni st++[IV.int (a:Int)]++ni weak=ni (st++a::weak):=by simp
  have gO:(h1++[IX.lst [IV.int (a:Int)]]++[IX.lst (ni st++[IV.int (a:Int)])]++[IX.lst (ni st++[IV.int (a:Int)]++ni weak)])[(h1++[IX.lst [IV.int (a:Int)]]++[IX.lst (ni st++[IV.int (a:Int)])]).length]?=Za (.lst (ni (st++a::weak))):=by rw[Jw,eo]
  generalize (h1++[IX.lst [IV.int (a:Int)]]++[IX.lst (ni st++[IV.int (a:Int)])]).length=O at gO ⊢
  generalize h1++[IX.lst [IV.int (a:Int)]]++[IX.lst (ni st++[IV.int (a:Int)])]++[IX.lst (ni st++[IV.int (a:Int)]++ni weak)]=h2 at x2 gO ⊢
  refine WR.mono (Je6 (k:=k+2) (d1.kp x2.kp) gO (hst▸Jsf p nl ha)) ?_
  rintro _ h3 ⟨D',rfl,x3,d3⟩
  have gS3:=x3.get (x2.get gS)
  rw[Yg]
  refine⟨_,gS3,?_⟩
  rw[lns]
  refine WR.mono (Jio (k:=k) (A:=pk rs st) (r:=rs.getD a rd) (B:=pk rs weak) d3 (by simp[pk]) (by simp[pk])) ?_
  rintro v h4 ⟨an,x4⟩
  have x14:=((x1.trans x2).trans x3).trans x4
  simp only[Jl1]
  rcases an with⟨rfl,no⟩|⟨⟨x,rfl⟩,yes⟩
  ·exact⟨Ze,rfl,⟨_,rfl,λ z=>absurd z (by decide),λ z=>absurd z no⟩,x14⟩
  ·exact⟨Zj,rfl,⟨_,rfl,λ _=>yes,λ _=>rfl⟩,x14⟩
end
theorem Js8 {i:Nat}{J:ItI->IH->Prop}{h:IH}:WR (Vg [.ref i] h) J=∃xs,h[i]?=Za (.lst xs)/\J ⟨xs.reverse,λ h'=>h'[i]?=Za (.lst xs)⟩ h:=by
 unfold Vg
 dsimp only
 cases e:h[i]? with
 | none=>simp[WR]
 | some o=>cases o<;>simp[WR]
section
variable {k:Nat}{h:IH}{D L W a:Nat}{rs:List RH}{top N:Int}{left weak:List Nat}
theorem Jwn (d:D71 h D rs top N)(hL:h[L]?=Za (.lst (ni left)))(hW:h[W]?=Za (.lst (ni weak)))(p:(left++weak).Perm (Z8 rs.length))(nl:left.Nodup) :
  WR (Jbm (k+8) [.ref D,.ref L,.ref W] h) λ v h'=>((v=.non/\∀a∈left,¬Fit (pk rs (left.filter λ b=>decide (b≠a))) (rs.getD a rd) (pk rs weak)) ∨
   ∃a∈left,v=.int (a:Int)/\Fit (pk rs (left.filter λ b=>decide (b≠a))) (rs.getD a rd) (pk rs weak))/\Ex h h':=by
 have lr:((ni left).reverse).length=left.length:=by simp
 have ge:∀i (hi:i<(ni left).reverse.length),∃a∈left,left.reverse[i]?=Za a/\(ni left).reverse[i]=.int (a:Int):=λ i hi=>by
  have hi':i<left.reverse.length:=by rw[ZbB];omega
  refine⟨left.reverse[i],List.mem_reverse.mp (ZR hi'),Zc hi',?_⟩
  have:(ni left).reverse=(left.reverse.map λ n:Nat=>(n:Int)).map IV.int:=by rw[List.map_reverse,List.map_reverse]
  simp only[this,ZaD]
 rw[Jga]
 simp! [Jck,Js8]
 refine⟨_,hL,?_⟩
 refine Q6 (λ i σ h'=>Ex h h'/\(∃c,σ=[Za (.ref D),Za (.ref L),Za (.ref W),c])/\∀j,j<i->∀a,left.reverse[j]?=Za a->¬Fit (pk rs (left.filter λ b=>decide (b≠a))) (rs.getD a rd) (pk rs weak)) ?_ ?_ ?_ ⟨.refl _,⟨Zb,rfl⟩,λ j hj=>absurd hj (Nat.not_lt_zero _)⟩
 ·rintro i _ h1 ⟨x1,_⟩
  exact x1.get hL
 ·rintro i hi _ h1 ⟨x1,⟨c,rfl⟩,no⟩
  obtain⟨a,ha,ea,ei⟩:=ge i hi
  rw[ei]
  simp! [Jbw]
  refine WR.mono (Jyr (k:=k) (d.kp x1.kp) (x1.get hL) (x1.get hW) p nl ha) ?_
  rintro _ h2 ⟨⟨b,rfl,hb⟩,x2⟩
  simp! [true_and]
  refine⟨λ q=>?_,λ q=>?_⟩
  ·exact⟨.inr ⟨a,ha,rfl,hb.mp q⟩,x1.trans x2⟩
  ·refine⟨x1.trans x2,⟨_,rfl⟩,λ j hj a' ea'=>?_⟩
   rcases ZeB j i with lt|ge
   ·exact no j lt a' ea'
   ·have:j=i:=by omega
    subst this
    rw[ea] at ea'
    cases ea'
    intro f
    rw[hb.mpr f] at q
    cases q
 ·rintro _ h1 ⟨x1,⟨c,rfl⟩,no⟩
  simp! [Jcl]
  refine⟨.inl λ a ha=>?_,x1⟩
  obtain⟨j,hj,e⟩:=List.getElem_of_mem (List.mem_reverse.mpr ha)
  exact no j (by rw[lr];rw[ZbB] at hj;exact hj) a (by rw[Zc hj,e])
end
theorem Jq0 {t:T1}{b:S1}{σ:ISt}{h:IH}{N:ISt->IH->Prop}{R:IV->IH->Prop}{Y:Nat->ISt->IH->Prop}(I:Nat->ISt->IH->Prop)
  (turn:∀m σ h,I m σ h->WR (t σ h) λ c h1=>(c=Ze->∃m',m=m'+1/\WSE (b σ h1) (I m') R λ n σ2 h2=>(∃c fs,h2[n]?=Za (.exc c fs))/\Y n σ2 h2)/\(c=Zj->N σ h1)){m:Nat}(hm:m<1000000)(start:I m σ h):WSE (VG t b σ h) N R Y:=by
 have key:∀(n m:Nat)(σ:ISt)(h:IH),m<n->I m σ h->WSE (Q5 t b n σ h) N R Y:=by
  intro n
  induction n with
  | zero=>intro m σ h hn _;omega
  | succ n ih =>
   intro m σ h hn hI
   obtain⟨c,h1,e,q1,q2⟩:=(turn m σ h hI).eq
   unfold Q5
   rw[e]
   cases c with
   | false=>exact q2 rfl
   | true =>
    obtain⟨m',rfl,w⟩:=q1 rfl
    simp only[if_true]
    cases eb:b σ h1 with
    | next σ2 h2=>rw[eb] at w;exact ih m' σ2 h2 (by omega) w
    | ret v h2=>rw[eb] at w;exact w
    | exc j σ2 h2 =>
     rw[eb] at w
     obtain⟨⟨c,fs,hj⟩,y⟩:=w
     dsimp only
     rw[hj]
     exact y
    | _=>rw[eb] at w;exact w.elim
 have et:VL=1000000:=by unfold VL;rfl
 rw[Jgj]
 exact key _ m σ h (by rw[et];exact hm) start
section
variable {h:IH}
theorem Jnf {N:ISt->IH->Prop}{R:IV->IH->Prop}{Y:Nat->ISt->IH->Prop}{σ:ISt}{rz:Str->Bool}{m:E1}{n:Nat}{c:Str}{fs:List (Str×IV)}{h1:IH}(e:m σ h=.ok (.ref n) h1)(hn:h1[n]?=Za (.exc c fs))(r:rz c=Ze)(y:Y n σ h1):WSE (XT rz m σ h) N R Y:=by
 unfold XT
 rw[Jma,e,J1t]
 dsimp only
 rw[hn]
 dsimp only
 rw[if_pos r]
 exact y
theorem Jsj {k L n:Nat}{xs:List IV}(e:h[n]?=Za (.exc "NoRanks" []))(hL:h[L]?=Za (.lst xs)) :
  Xu (k+1) [.ref n,.ref L] h=.ok .non ((h++[IX.lst xs]).set n (.exc "NoRanks" [("stuck",.ref h.length)])):=by
 have xo:((pg k).xo "NoRanks").isSome=Ze:=by kernel_rfl
 have xf:xfOf T "stuck" "NoRanks"=Ze:=by kernel_rfl
 have e1:XC (λ c=>((pg k).xo c).isSome) (Jb (Ja 0) (Jb (eC (.str "no order of the works keeps the duty")) Jd)) [Za (.ref n),Za (.ref L)] h=.ok .non h:=by
  unfold XC
  show(match h[n]? with|some (.exc c _)=>if ((pg k).xo c).isSome then Res.ok IV.non h else .stuck|_=>.stuck)=_
  rw[e]
  show(if ((pg k).xo "NoRanks").isSome then Res.ok IV.non h else .stuck)=_
  rw[if_pos xo]
 have el:eCB (on1 Qp) (Jb (Ja 1) Jd) [Za (.ref n),Za (.ref L)] h=.ok (.ref h.length) (h++[.lst xs]):=by
  refine Jz ?_
  simp! [true_and]
  rw[Jl2]
  exact⟨xs,hL,rfl,rfl⟩
 have e2:XS (xfOf T "stuck") "stuck" (Ja 0) (eCB (on1 Qp) (Jb (Ja 1) Jd)) [Za (.ref n),Za (.ref L)] h=.next [Za (.ref n),Za (.ref L)] ((h++[IX.lst xs]).set n (.exc "NoRanks" [("stuck",.ref h.length)])):=by
  unfold XS
  rw[el]
  show(match (h++[IX.lst xs])[n]? with|some (.exc c [])=>if xfOf T "stuck" c&&Ze then SRes.next _ ((h++[IX.lst xs]).set n (.exc c [("stuck",.ref h.length)])) else .stuck|_=>.stuck)=_
  rw[grow e]
  show(if xfOf T "stuck" "NoRanks"&&Ze then _ else SRes.stuck)=_
  rw[if_pos (by rw[xf];rfl)]
 refine Jz ?_
 rw[Jf8]
 simp! [Jce,e1,Jcf,e2]
end
theorem Ju0 {left:List Nat}{a:Nat}(ha:a∈left):∃j,(left.map λ n:Nat=>(n:Int)).findIdx? (· ==(a:Int))=Za j/\∃hj:j<left.length,left[j]=a:=by
 have:((left.map λ n:Nat=>(n:Int)).findIdx? (· ==(a:Int))).isSome=Ze:=by
  rw[List.findIdx?_isSome,ZbG]
  exact⟨(a:Int),Z6.mpr ⟨a,ha,rfl⟩,by simp⟩
 obtain⟨j,hj⟩:=Za0.mp this
 refine⟨j,hj,?_⟩
 obtain⟨h1,h2,_⟩:=Zaz.mp hj
 rw[Zo] at h1
 refine⟨h1,?_⟩
 have:=beq_iff_eq.mp h2
 rw[ZaD] at this
 omega
theorem XH {α β:Type}(f:α->β):∀(l:List α)(j:Nat),(l.map f).eraseIdx j=(l.eraseIdx j).map f
 | [],_=>rfl
 | _::_,0=>rfl
 | a::l,j+1=>congrArg (f a:: ·) (XH f l j)
theorem Jep:∀(l:List Nat)(j:Nat)(hj:j<l.length),(l[j]::l.eraseIdx j).Perm l
 | _::_,0,_=>.refl _
 | a::l,j+1,hj=>(List.Perm.swap a (l[j]'(ZdZ hj)) (l.eraseIdx j)).trans ((Jep l j (ZdZ hj)).cons a)
theorem Jjf {left:List Nat}{a j:Nat}(nl:left.Nodup)(hj:j<left.length)(e:left[j]=a):(left.filter λ b=>decide (b≠a)).Perm (left.eraseIdx j)/\(a::left.eraseIdx j).Perm left:=by
 have p1:(a::left.eraseIdx j).Perm left:=e▸Jep left j hj
 have ha:a∈left:=e▸ZR hj
 refine⟨Zdx (a:=a) (.trans ?_ p1.symm),p1⟩
 refine(Za8 (ZaL.mpr ⟨λ z=>?_,nl.filter _⟩) nl).mpr λ x=>?_
 ·exact of_decide_eq_true (ZL.mp z).2 rfl
 ·simp only[ZB,ZL,decide_eq_true_eq]
  constructor
  ·rintro(rfl|z)
   ·exact ha
   ·exact z.1
  ·intro z
   by_cases q:x=a
   ·exact .inl q
   ·exact .inr ⟨z,q⟩
theorem Jrl {rs:List RH}{left weak:List Nat}{a j:Nat}(nl:left.Nodup)(hj:j<left.length)(e:left[j]=a)(f:Fit (pk rs (left.filter λ b=>decide (b≠a))) (rs.getD a rd) (pk rs weak))(all:JR (pk rs left) (pk rs weak)) :
  JR (pk rs (left.eraseIdx j)) (pk rs (a::weak)):=by
 obtain⟨p1,p2⟩:=Jjf nl hj e
 refine⟨f.perm (p1.map _) (.refl _),all.above ?_⟩
 have:(pk rs (a::left.eraseIdx j)).Perm (pk rs left):=p2.map _
 refine this.symm.trans ?_
 exact(List.perm_append_singleton (rs.getD a rd) (pk rs (left.eraseIdx j))).symm
section
variable {k:Nat}{h:IH}{D:Nat}{rs:List RH}{top N:Int}
theorem Jpj (d:D71 h D rs top N):WE (Jhj (k+9) [.ref D] h)
  (λ v h'=>(∃O os,v=.ref O/\h.length<=O/\h'[O]?=Za (.lst (ni os))/\os.Perm (Z8 rs.length)/\JR [] (pk rs os))/\Ex h h')
  (λ n h'=>(∃j left weak,h'[n]?=Za (.exc "NoRanks" [("stuck",.ref j)])/\h'[j]?=Za (.lst (ni left))/\Stuck (λ a=>rs.getD a rd) rs.length left weak)/\Ex h h'):=by
 have hb:=JC
 have l12:=d.q.l
 obtain⟨vs,y⟩:=d.y
 have wl:=y.w.len
 rw[Joi]
 refine Jz3 ?_
 rw[Jg3,VP]
 refine WSE.of ?_
 simp! [Jw5]
 rw[Qt (i:=D) (h1:=h) rfl y.d (by kernel_rfl) (Jbk _)]
 simp! [Jea y.d,wl,Zde]
 refine⟨by omega,?_⟩
 rw[Jln]
 rw[Jg4,VP]
 refine WSE.of ?_
 simp! [VM]
 refine⟨by simp,?_⟩
 rw[Jg5,VP]
 have wf:∀a,a<rs.length->WorkF (rs.getD a rd):=λ a ha=>by
  rw[Z3,Zc ha]
  exact d.q.w _ (ZR ha)
 refine Jq0 (λ m σ h'=>∃left weak W g c,m=left.length/\σ=[Za (.ref D),Za (.ref h.length),Za (.ref W),c]/\h'=h++IX.lst (ni left)::g/\h'[W]?=Za (.lst (ni weak))/\h.length<W/\(left++weak).Perm (Z8 rs.length)/\left.Pairwise (· < ·)/\JR (pk rs left) (pk rs weak)) ?_ (m:=rs.length) (by omega)
  ⟨Z8 rs.length,[],(h++[IX.lst (ni (Z8 rs.length))]).length,[.lst []],Zb,by simp,rfl,by simp,Jw,by simp,by simp,List.pairwise_lt_range,trivial⟩
 rintro m _ _ ⟨left,weak,W,g,c,rfl,rfl,rfl,hW,lW,p,sl,all⟩
 have nl:left.Nodup:=sl.imp λ h=>ZD h
 have x0:Ex h (h++IX.lst (ni left)::g):=.cons _ _ _
 have gL:(h++IX.lst (ni left)::g)[h.length]?=Za (.lst (ni left)):=Jr
 have ln:(ni left).length=left.length:=by simp
 have lnw:(ni weak).length=weak.length:=by simp
 have ll:left.length+weak.length=rs.length:=by rw[<- ZE,p.length_eq,Zae]
 simp! [Yg]
 refine⟨_,gL,?_⟩
 simp! [ln,decide_eq_true_eq,decide_eq_false_iff_not]
 refine⟨λ q=>⟨left.length-1,by omega,?_⟩,λ q=>?_⟩
 ·rw[Jgh,VP,Jky,Jqc]
  refine WE.of ?_
  simp! [true_and]
  refine WE.of (WR.mono (Jwn (k:=k) (d.kp x0.kp) gL hW p nl) ?_)
  rintro v h2 ⟨an,x2⟩
  rcases an with⟨rfl,no⟩|⟨a,ha,rfl,ft⟩
  ·rw[VP,Juf]
   refine WE.of ?_
   simp! [Xq,isI]
   have gL2:=x2.get gL
   have ei:Xu (k+8) [.ref h2.length,.ref h.length] (h2++[.exc "NoRanks" []])=.ok .non (h2++[.exc "NoRanks" [("stuck",.ref (h2.length+1))],.lst (ni left)]):=by
    rw[Jsj (k:=k+7) Jw (grow gL2)]
    simp
   have x3:Ex h2 (h2++[IX.exc "NoRanks" [("stuck",.ref (h2.length+1))],.lst (ni left)]):=.cons _ _ _
   have gE:(h2++[IX.exc "NoRanks" [("stuck",.ref (h2.length+1))],.lst (ni left)])[h2.length]?=Za (.exc "NoRanks" [("stuck",.ref (h2.length+1))]):=Jr
   refine Jnf (n:=h2.length) (c:="NoRanks") (h1:=h2++[IX.exc "NoRanks" [("stuck",.ref (h2.length+1))],.lst (ni left)]) ?_ gE (by kernel_rfl) ⟨⟨_,_,gE⟩,⟨_,_,gE⟩,⟨_,left,weak,gE,by rw[Zu (Zao _)];simp,p,sl,λ z=>by rw[z] at q;exact absurd q (by decide),all,no,wf⟩,(x0.trans x2).trans x3⟩
   show((Xu (k+8) [.ref h2.length,.ref h.length] (h2++[.exc "NoRanks" []])).bind _)=_
   rw[ei]
   rfl
  ·obtain⟨j,fj,hj,ej⟩:=Ju0 ha
   rw[VP,Juf]
   refine WE.of ?_
   simp! [Xq,isI]
   have gL2:=x2.get gL
   rw[Jxe,VP,Jte]
   refine WE.of ?_
   rw[Jkq (i:=h.length) (h1:=h2) rfl gL2 Jnv]
   simp! [true_and]
   refine xrem gL2 fj ?_
   have en:((left.map λ n:Nat=>(n:Int)).map IV.int).eraseIdx j=ni (left.eraseIdx j):=by rw[XH,XH]
   rw[en]
   obtain⟨g2,rfl⟩:=x2
   rw[ZF,ZH,V0]
   have hW2:(h++IX.lst (ni (left.eraseIdx j))::(g++g2))[W]?=Za (.lst (ni weak)):=by
    obtain⟨w,rfl⟩:∃w,W=h.length+(w+1):=⟨W-h.length-1,by omega⟩
    rw[Zu (by omega),ZdP,ZS] at hW ⊢
    rw[Z7 (Zn.mp hW).1]
    exact hW
   rw[Jky]
   refine WE.of ?_
   simp! [VM,Yd]
   refine⟨by simp;omega,[.int (a:Int)],Jw,ni weak,grow hW2,by simp;omega,?_⟩
   obtain⟨p1,p2⟩:=Jjf nl hj ej
   refine⟨left.eraseIdx j,a::weak,_,g++g2++[.lst [.int (a:Int)]]++[.lst ([.int (a:Int)]++ni weak)],_,by rw[Zdy hj],rfl,by simp,Jw,by simp only[ZE,ZC,ZaM];omega,?_,sl.sublist (List.eraseIdx_sublist left j),Jrl nl hj ej ft all⟩
   refine .trans ?_ p
   refine Zbe.trans ?_
   rw[<- ZH]
   exact p2.append_right weak
 ·have e0:left=[]:=List.length_eq_zero_iff.mp (by omega)
  subst e0
  refine WSE.of ?_
  simp! [Jg6]
  exact⟨⟨W,weak,rfl,by omega,hW,p,all⟩,x0⟩
end
section
seal L4.run L4.WS
theorem Jj8 {α β:Type}(f:α->β):∀l:List α,evn (l.map f)=(evn l).map f
 | []=>rfl
 | [_]=>rfl
 | a::_::l=>congrArg (f a:: ·) (Jj8 f l)
structure Wk (h:IH)(W:Nat)(rs:List RH)(top N:Int):Prop where
 y:∃vs,h[W]?=Za (.lst vs)/\AllH h vs rs
 t:h[0]?=Za (.tab "longest_hold")
 q:Dw rs top N
 nd:(rs.map λ r=>r.1.name).Nodup
theorem Wk.kp {h h':IH}{W:Nat}{rs:List RH}{top N:Int}(k:Kp h h')(w:Wk h W rs top N):Wk h' W rs top N:=⟨w.y.imp λ _ ⟨a,b⟩=>⟨k _ _ a,b.kp k⟩,k _ _ w.t,w.q,w.nd⟩
theorem AllH.pk {h:IH}{vs:List IV}{rs:List RH}{os:List Nat}(R:AllH h vs rs)(ho:∀n∈os,n<rs.length):AllH h (os.map λ n=>vs.getD n .non) (pk rs os):=by
 have rl:=R.len
 refine⟨by simp[LW.pk],λ i y r a b=>?_⟩
 rw[Z0] at a
 unfold LW.pk at b
 rw[Z0] at b
 cases eo:os[i]? with
 | none=>rw[eo] at a;cases a
 | some n =>
  have hn:=ho n (Zcb eo)
  rw[eo,Zbz,Z3,Zc (show n<vs.length by omega)] at a
  rw[eo,Zbz,Z3,Zc hn] at b
  exact R.at_ n y r (by rw[Zc (by omega)];exact a) (by rw[Zc hn];exact b)
section
variable {k:Nat}{h:IH}{W O:Nat}{rs:List RH}{top N:Int}
theorem Jhx {A B:List Nat}{a:Nat}{m:Int}(w:Wk h W rs top N)(hO:h[O]?=Za (.lst (ni (A++a::B))))(p:(A++a::B).Perm (Z8 rs.length))(hm:m=A.length+1) :
  WR (VT (k+7) [.ref W,.ref O,.int m] h) λ v h'=>(∃b,v=.bl b/\(b=Ze↔Fit (pk rs A) (rs.getD a rd) (pk rs B)))/\Ex h h':=by
 have hb:=JC
 have l12:=w.q.l
 have lo:(A++a::B).length=rs.length:=by rw[p.length_eq,Zae]
 have ln:(ni (A++a::B)).length=(A++a::B).length:=by simp
 have ho:∀n∈A++a::B,n<rs.length:=λ n hn=>Zar.mp (p.mem_iff.mp hn)
 have ep:pk rs (A++a::B)=pk rs A++rs.getD a rd::pk rs B:=by simp[pk]
 obtain⟨vs,gW,wv⟩:=w.y
 have fin:∀{D:Nat}{h1:IH}{N':ISt->IH->Prop},Ex h h1->D71 h1 D (pk rs (A++a::B)) top N->WS (Jbp (k+6) [Za (.ref W),Za (.ref O),Za (.int m),Za (.ref D)] h1) N' λ v h'=>(∃b,v=.bl b/\(b=Ze↔Fit (pk rs A) (rs.getD a rd) (pk rs B)))/\Ex h h':=by
  intro D h1 N' x1 d
  refine xret ((Vl ..).mpr ((Qj ..).mpr (Jf (arg2 rfl (okc (subE rfl rfl) (congrArg IV.int (show m-1=((A.length:Nat):Int) by omega)))) ?_)))
  refine WR.mono (Jio (k:=k) (A:=pk rs A) (r:=rs.getD a rd) (B:=pk rs B) d ep (by simp[pk])) ?_
  rintro v h4 ⟨an,x4⟩
  refine Jf rfl ?_
  rw[Jl1]
  rcases an with⟨rfl,no⟩|⟨⟨x,rfl⟩,yes⟩
  ·exact⟨Ze,rfl,⟨_,rfl,λ z=>absurd z (by decide),λ z=>absurd z no⟩,x1.trans x4⟩
  ·exact⟨Zj,rfl,⟨_,rfl,λ _=>yes,λ _=>rfl⟩,x1.trans x4⟩
 generalize A++a::B=os at *
 rw[Je8]
 have eE:∀{σ:ISt},Ja 1 σ h=.ok (.ref O) h->eCB (on1 sumI) (Jb (eUn evnI (Ja 1)) Jd) σ h=.ok (.int ((evn os).map λ n:Nat=>(n:Int)).sum) (h++[.lst (ni (evn os))]):=λ {σ} e=>by
  have e1:eUn evnI (Ja 1) σ h=.ok (.ref h.length) (h++[.lst (ni (evn os))]):=by
   unfold eUn
   rw[e]
   show evnI (.ref O) h=_
   unfold evnI
   dsimp only
   rw[hO]
   dsimp only
   rw[Jj8,Jj8]
  rw[cbE (arg1 e1)]
  exact Jz ((Jks ..).mpr ⟨_,Jw,_,Vv _,rfl,rfl⟩)
 have x1:Ex h (h++[IX.lst (ni (evn os))]):=.one _ _
 refine xfin (xseq (xifd (eqE (modE (eE rfl) rfl (by decide)) rfl) (λ _=>?_) λ _=>?_))
 ·generalize h++[IX.lst (ni (evn os))]=h1 at x1 ⊢
  obtain⟨v,h2,e2,rfl,x2,d2⟩:=(Jk8 (k:=k+3) (x1.get gW) (wv.kp x1.kp) (x1.get w.t) w.q w.nd).eq
  have em:∀{σ:ISt},Ja 0 σ h1=.ok (.ref W) h1->Qn "Duty" (QX (k+6)) [] (Jb (Ja 0) Jd) σ h1=.ok (.ref h1.length) h2:=λ e=>Jz ((VN ..).mpr (Jf (arg1 e) (Jf e2 ⟨rfl,rfl,rfl⟩)))
  obtain⟨us,y2⟩:=d2.y
  have x12:=x1.trans x2
  refine xset (J11 (em rfl) y2.d (by kernel_rfl) (Jbu _) (Jf (arg1 (Jyq rfl (x12.get hO))) ?_))
  have x3:Ex h2 (h2++[IX.lst (ni os)]):=.one _ _
  refine WR.mono (Je6 (k:=k+2) (d2.kp x3.kp) Jw p) ?_
  rintro _ h4 ⟨D',rfl,x4,d4⟩
  exact fin ((x12.trans x3).trans x4) d4
 ·generalize h++[IX.lst (ni (evn os))]=h1 at x1 ⊢
  have O1:=x1.get hO
  refine xset ((VN ..).mpr ((QV ..).mpr (WR.mono (Qs (h:=h1) (xs:=ni os) (chk:=λ h'=>h'[O]?=Za (.lst (ni os))) (f:=λ v=>match v with|.int n=>vs.getD n.toNat .non|_=>.non) ?_ (by omega) (λ h2 q=>q _ _ O1) ?_) ?_)))
  ·simp! [Qk,O1]
  ·intro v hv h2 z
   obtain⟨b,hb',rfl⟩:=Z6.mp hv
   obtain⟨n,hn,rfl⟩:=Z6.mp hb'
   have hn':n<vs.length:=by have:=ho n hn;have:=wv.len;omega
   exact Jf (ixlE rfl rfl (z _ _ (x1.get gW)) (Qc (Zc hn'))) ⟨by simp[Z3,hn'],.refl _⟩
  rintro _ _ ⟨rfl,g,rfl⟩
  have ev:(ni os).map (λ v=>match v with|.int n=>vs.getD n.toNat IV.non|_=>IV.non)=os.map λ n=>vs.getD n .non:=by simp[Zdn,Function.comp]
  rw[ev]
  have x2:Ex h1 (h1++IX.lst (os.map λ n=>vs.getD n .non)::g):=.cons _ _ _
  have x12:=x1.trans x2
  refine Jf rfl (WR.mono (Jk8 (k:=k+3) Jr ((wv.pk ho).kp x12.kp) (x12.get w.t) (w.q.perm (Jh2 p).symm) (((Jh2 p).map _).nodup_iff.mpr w.nd)) ?_)
  rintro _ h3 ⟨rfl,x3,d3⟩
  exact⟨rfl,fin (x12.trans x3) d3⟩
end
end
section
seal L4.run L4.WS
section
variable {k:Nat}{h:IH}
theorem Jyw {i j:Nat}{as:List Int}(hi:h[i]?=Za (.lst (as.map .int)))(hj:h[j]?=Za (.lst [])):cNe (.ref i) (.ref j) h=.ok (.bl (!as.isEmpty)) h:=by
 have e:=Jhc hi hj
 unfold cEq at e
 unfold cNe
 have e4:Vz (.ref i) (.ref j)=Zb:=rfl
 rw[e4] at e ⊢
 dsimp only at e ⊢
 cases q:QA (.ref i) (.ref j) h with
 | none=>rw[q] at e;cases e
 | some b =>
  rw[q] at e
  cases e
  rfl
theorem Jhy {L:Nat}{l:List Nat}{c:Int}(hL:h[L]?=Za (.lst (ni l)))(l12:l.length<=12) :
  WR (Xv (k+1) [.ref L,.int c] h) λ v h'=>∃(i:Nat)(m:List Nat),v=.ref i/\h'[i]?=Za (.lst (ni m))/\m.Perm l/\Ex h h':=by
 have hb:=JC
 rw[Ji7]
 refine xfin (xseq (xset (Jf (Jyq rfl hL) (xseq (xset (Jf (lstE rfl rfl) (xseq ?_)))))))
 refine Jl9 (λ m σ h'=>∃left fnd c' g,m=left.length/\h'=h++IX.lst (ni left)::IX.lst (ni fnd)::g/\σ=[Za (.ref L),Za (.int c'),Za (.ref h.length),Za (.ref (h.length+1))]/\(fnd++left).Perm l) ?_ (m:=l.length) (by omega) ⟨l,[],c,[],rfl,by simp,by simp,.refl _⟩
 rintro m _ _ ⟨left,fnd,c',g,rfl,rfl,rfl,p⟩
 have ll:fnd.length+left.length=l.length:=by rw[<- ZE,p.length_eq]
 have g1:(h++IX.lst (ni left)::IX.lst (ni fnd)::g)[h.length]?=Za (.lst (ni left)):=Jr
 have g2:∀{o:IX}{g:IH},(h++o::IX.lst (ni fnd)::g)[h.length+1]?=Za (.lst (ni fnd)):=λ {o g}=>by rw[Zu (Zao _)];simp
 have ln:(ni left).length=left.length:=by simp
 refine Jf (tofE ((binE rfl (lstE rfl rfl)).trans (Jyw (as:=left.map λ n:Nat=>(n:Int)) (grow g1) Jw))) ⟨λ q=>?_,λ q=>?_⟩
 ·have ne:left≠[]:=λ z=>by rw[z] at q;cases q
  have pos:0<left.length:=Zdg.mpr ne
  have e1:=ZaO c' (b:=left.length) (by omega)
  have e2:=Zay c' (b:=left.length) (by omega)
  refine⟨left.length-1,by omega,?_⟩
  rw[ZF,ZH,ZH]
  obtain⟨j,ej,lj⟩:∃j:Nat,c'%(left.length:Int)=(j:Int)/\j<left.length:=⟨(c'%(left.length:Int)).toNat,by omega,by omega⟩
  have ey:(ni left)[j]?=Za (.int (left[j]:Nat)):=by rw[Z0,Z0,Zc lj];rfl
  refine xseq (Yn (Xt rfl g2 X3 ((QV ..).mpr (Xt rfl Jr Jxk (Jf (arg1 (okc (modE rfl ((lenE rfl Jr).trans (by rw[ln])) (by omega)) (congrArg IV.int ej))) ?_)))))
  rw[Jz6 Jr (by omega) ey,V0]
  refine Jf rfl (xapp g2 (by rw[Zo,Zo];omega) ?_)
  rw[ZcJ _ _ (Zao _)]
  refine xset (Jf (JZ rfl rfl (by decide) (by decide)) ⟨left.eraseIdx j,fnd++[left[j]],_,g++[.lst []],by rw[Zdy lj],?_,rfl,?_⟩)
  ·rw[XH,XH]
   simp
  ·rw[ZF]
   exact((Jep left j lj).append_left fnd).trans p
 ·have e0:left=[]:=by
   cases left with
   | nil=>rfl
   | cons _ _=>cases q
  subst e0
  rw[ZaK] at p
  exact xret (Jf rfl ⟨_,fnd,rfl,grow g2,p,(Ex.cons _ _ _).trans (.one _ _)⟩)
end
end
section
seal L4.run L4.WS
section
variable {k:Nat}{h:IH}
theorem Jtu {i n:Nat}{l:List Nat}(hi:h[i]?=Za (.lst (ni l))):inI (.int (n:Int)) (.ref i) h=Za (decide (n∈l)):=by
 have e1:toD h 6 (.ref i)=Za (.list ((l.map λ n:Nat=>(n:Int)).map Zce)):=by
  rw[Jp4 hi,Jo9]
  rfl
 unfold inI
 rw[e1,show toD h 6 (.int (n:Int))=Za (.int n) from rfl]
 dsimp only
 rw[if_pos ⟨Jnx _,by rw[Zbk]⟩]
 clear e1 hi
 congr 1
 induction l with
 | nil=>rfl
 | cons z zs ih =>
  rw[Zs,Zs,Zct,ih,ZbP,Zaq,decide_eq_true_eq,decide_eq_true_eq,ZB]
  have:ZaP (.int (z:Int)) (.int (n:Int))=Ze↔n=z:=by
   show decide ((z:Int)=n)=Ze↔_
   rw[decide_eq_true_eq]
   omega
  rw[this]
theorem inE {σ:ISt}{a b:E1}{n i:Nat}{l:List Nat}{h1 h2:IH}(ea:a σ h=.ok (.int (n:Int)) h1)(eb:b σ h1=.ok (.ref i) h2)(hi:h2[i]?=Za (.lst (ni l))):Jh asB (Jc cIn a b) σ h=.ok (decide (n∈l)) h2:=tofE ((binE ea eb).trans (by unfold cIn;rw[Jtu hi]))
theorem Jpd {σ:ISt}{a b:E1}{n i:Nat}{l:List Nat}{h1 h2:IH}(ea:a σ h=.ok (.int (n:Int)) h1)(eb:b σ h1=.ok (.ref i) h2)(hi:h2[i]?=Za (.lst (ni l))):Jh asB (Jc V7 a b) σ h=.ok (decide (n∉l)) h2:=tofE ((binE ea eb).trans (by unfold V7;rw[Jtu hi];by_cases q:n∈l<;>simp[q]))
theorem neE {σ:ISt}{h1 h2:IH}{a b:E1}{i j:Nat}(ea:a σ h=.ok (.int (i:Int)) h1)(eb:b σ h1=.ok (.int (j:Int)) h2):Jh asB (Jc cNe a b) σ h=.ok (decide (i≠j)) h2:=(tofE (binE ea eb)).trans (by
 show Res.ok (!decide ((i:Int)=j)) h2=_
 congr 1
 by_cases q:i=j
 ·simp[q]
 ·simp[q,show ¬(i:Int)=j by omega])
theorem lrE {σ:ISt}{a:E1}{n:Nat}{h1:IH}(e:a σ h=.ok (.int (n:Int)) h1)(l:n<=1000):eLR (Jb a Jd) σ h=.ok (.ref h1.length) (h1++[.lst (ni (Z8 n))]):=by
 refine Jz ?_
 rw[Jw5]
 refine Jf (arg1 e) ⟨_,rfl,by omega,?_⟩
 rw[Jln]
 exact⟨rfl,rfl⟩
def pV (p:Nat->Bool)(v:IV):Bool:=match v with
 | .int n=>p n.toNat
 | _=>Zj
theorem Jy8 (p:Nat->Bool):∀l:List Nat,((ni l).filter (pV p)).map (λ v=>v)=ni (l.filter p)
 | []=>rfl
 | a::l=>by
  have ih:=Jy8 p l
  show((IV.int (a:Int)::ni l).filter (pV p)).map (λ v=>v)=ni ((a::l).filter p)
  have e:pV p (.int (a:Int))=p a:=rfl
  cases q:p a with
  | true=>rw[ZbJ (by rw[e];exact q),ZbJ (by exact q),Zs,ih];rfl
  | false=>rw[ZbI (by rw[e,q];decide),ZbI (by rw[q];decide),ih]
theorem X7 {h h0:IH}{it:I1}{t:T1}{e:E1}{js:List Nat}{σ:ISt}{l:List Nat}{chk:IH->Prop}(p:Nat->Bool)(hit:WR (it σ h0) λ J h1=>J.xs=ni l/\J.chk=chk/\h1=h)(hl:l.length<=12)(hc:∀h2:IH,Kp h h2->chk h2)
  (ht:∀n∈l,∀h2:IH,Kp h h2->t (Za (.int (n:Int))::js.map λ j=>(σ[j]?).join) h2=.ok (p n) h2)(he:∀(n:Nat)(s:ISt)(h2:IH),e (Za (.int (n:Int))::s) h2=.ok (.int (n:Int)) h2) :
  ∃g,Js it 1 js (gNm 0) t e σ h0=.ok (.ref h.length) (h++.lst (ni (l.filter p))::g):=by
 have hb:=JC
 obtain⟨v,h3,q,rfl,g,rfl⟩:=(Jie (p:=pV p) (f:=λ v=>v) hit (by rw[Zo,Zo];omega) hc (λ x hx h2 z=>by
  obtain⟨a,ha,rfl⟩:=Z6.mp hx
  obtain⟨n,hn,rfl⟩:=Z6.mp ha
  exact Jf (ht n hn h2 z) ⟨rfl,.refl _⟩) (λ x hx _ h2 z=>by
  obtain⟨a,ha,rfl⟩:=Z6.mp hx
  obtain⟨n,hn,rfl⟩:=Z6.mp ha
  exact Jf (he n _ h2) ⟨rfl,.refl _⟩)).eq
 rw[Jy8] at q
 exact⟨g,q⟩
theorem itN {σ:ISt}{a:E1}{i:Nat}{l:List Nat}{h1:IH}(ea:a σ h=.ok (.ref i) h1)(hi:h1[i]?=Za (.lst (ni l))):WR (J0 a σ h) λ J h2=>J.xs=ni l/\J.chk=(λ h'=>h'[i]?=Za (.lst (ni l)))/\h2=h1:=by
 unfold J0
 rw[Jq]
 refine Jf ea ?_
 rw[Qk]
 exact⟨_,hi,rfl,rfl,rfl⟩
theorem itR {σ:ISt}{a:E1}{n:Nat}{h1:IH}(ea:a σ h=.ok (.int (n:Int)) h1)(l:n<=1000):WR (iRg JD (Jb a Jd) σ h) λ J h2=>J.xs=ni (Z8 n)/\J.chk=(λ _=>True)/\h2=h1:=by
 rw[Ye]
 refine Jf (arg1 ea) ?_
 rw[Yk]
 exact⟨by omega,Jln n,rfl,rfl⟩
theorem Jp5 (f:Nat->Int):∀(n:Nat),0<n->∃j,j<n/\JM f n=f j
 | 0,h=>by omega
 | 1,_=>⟨0,by omega,rfl⟩
 | n+2,_=>by
  rw[Jc4 f (by omega:0<n+1)]
  obtain⟨j,hj,e⟩:=Jp5 f (n+1) (by omega)
  split
  ·exact⟨n+1,by omega,rfl⟩
  ·exact⟨j,by omega,e⟩
theorem Jvu {i:Nat}{l:List Nat}(hi:h[i]?=Za (.lst (ni l)))(ne:l≠[]):∃m∈l,(∀x∈l,x<=m)/\Xf (.ref i) h=.ok (.int (m:Int)) h:=by
 have pos:0<l.length:=Zdg.mpr ne
 have ga:∀j (hj:j<l.length),(l.map λ n:Nat=>(n:Int)).getD j 0=(l[j]:Nat):=λ j hj=>by simp[Z3,hj]
 obtain⟨j,hj,e⟩:=Jp5 (λ i=>(l.map λ n:Nat=>(n:Int)).getD i 0) l.length pos
 rw[ga j hj] at e
 refine⟨l[j],ZR hj,λ x hx=>?_,?_⟩
 ·obtain⟨i,hi,rfl⟩:=Zan.mp hx
  have:=Jt8 (λ i=>(l.map λ n:Nat=>(n:Int)).getD i 0) l.length i hi
  rw[ga i hi,e] at this
  omega
 ·unfold Xf
  dsimp only
  rw[hi]
  dsimp only
  rw[Vv]
  dsimp only
  rw[if_neg (by simpa using ne),Zo,e]
theorem Jhg:∀{l m:List Nat},l.Pairwise (· < ·)->m.Pairwise (· < ·)->(∀x,x∈l↔x∈m)->l=m
 | [],[],_,_,_=>rfl
 | [],b::m,_,_,q=>by have:=(q b).mpr Zv;cases this
 | a::l,[],_,_,q=>by have:=(q a).mp Zv;cases this
 | a::l,b::m,h1,h2,q=>by
  obtain⟨a1,a2⟩:=List.pairwise_cons.mp h1
  obtain⟨b1,b2⟩:=List.pairwise_cons.mp h2
  have e:a=b:=by
   rcases ZB.mp ((q a).mp Zv) with r|r
   ·exact r
   ·rcases ZB.mp ((q b).mpr Zv) with z|z
    ·exact z.symm
    ·have:=a1 b z
     have:=b1 a r
     omega
  subst e
  rw[Jhg a2 b2 λ x=>?_]
  have:=q x
  simp only[ZB] at this
  constructor
  ·intro r
   have:=a1 x r
   exact(this |> λ _=>(q x).mp (Zt _ r) |> ZB.mp).resolve_left (by omega)
  ·intro r
   have:=b1 x r
   exact((q x).mpr (Zt _ r) |> ZB.mp).resolve_left (by omega)
end
end
section
seal L4.run L4.WS
section
variable {k:Nat}{h:IH}{W S:Nat}{rs:List RH}{top N:Int}{left weak:List Nat}
theorem add3 {σ:ISt}{a b c:E1}{A B C:Nat}{x y z:List Nat}(ea:a σ h=.ok (.ref A) h)(gA:h[A]?=Za (.lst (ni x)))(eb:b σ h=.ok (.ref B) (h++[.lst (ni y)]))(hB:B=h.length)(ec:∀g,c σ (h++g)=.ok (.ref C) (h++g))(gC:h[C]?=Za (.lst (ni z)))(l:x.length+y.length+z.length<=100) :
  ∃O g,Jc Jl (Jc Jl a b) c σ h=.ok (.ref O) (h++g)/\(h++g)[O]?=Za (.lst (ni (x++y++z))):=by
 have hb:=JC
 subst hB
 have e1:Jc Jl a b σ h=.ok (.ref (h.length+1)) (h++[.lst (ni y),.lst (ni (x++y))]):=by
  rw[binE ea eb]
  refine Jz ((Yd ..).mpr ⟨_,grow gA,_,Jw,by simp;omega,?_,?_⟩)
  ·simp
  ·simp
 refine⟨h.length+2,[.lst (ni y),.lst (ni (x++y)),.lst (ni (x++y++z))],?_,by simp⟩
 rw[binE e1 (ec _)]
 refine Jz ((Yd ..).mpr ⟨ni (x++y),by simp,_,grow gC,by simp;omega,?_,?_⟩)
 ·simp
 ·simp
theorem Jmy (w:Wk h W rs top N)(hS:h[S]?=Za (.lst (ni left)))(st:Stuck (λ a=>rs.getD a rd) rs.length left weak):WR (Jbz (k+8) [.ref W,.ref S] h) λ v h'=>v=.bl Ze/\Ex h h':=by
 have hb:=JC
 have l12:=w.q.l
 obtain⟨vs,gW,wv⟩:=w.y
 have vl:=wv.len
 have ll:left.length+weak.length=rs.length:=by rw[<- ZE,st.p.length_eq,Zae]
 rw[Jgt]
 refine xfin (xseq (xset (Jf (lrE (n:=rs.length) ((lenE rfl gW).trans (by rw[vl])) (by omega)) (xseq (xset (Jf (lstE rfl rfl) (xseq ?_)))))))
 have x1:Ex h (h++[IX.lst (ni (Z8 rs.length))]++[IX.lst []]):=(Ex.one _ _).trans (.one _ _)
 refine xrng (n:=rs.length-left.length) ((subE (lenE rfl (x1.get gW)) (lenE rfl (x1.get hS))).trans (by rw[vl,Zo,Zo];congr 2;omega)) (by omega) ?_
 refine Q6 (λ n σ h'=>∃(L B:List Nat)(l b:Nat)(c4 c5 c6 c7:Option IV),Ex h h'/\σ=[Za (.ref W),Za (.ref S),Za (.ref l),Za (.ref b),c4,c5,c6,c7]/\h'[l]?=Za (.lst (ni L))/\h'[b]?=Za (.lst (ni B))/\(L++B).Perm (Z8 rs.length)/\(∀x∈left,x∈L)/\L.length+n=rs.length) (λ _ _ _ _=>trivial) ?_ ?_
  ⟨Z8 rs.length,[],_,_,Zb,Zb,Zb,Zb,x1,rfl,grow Jw,Jw,by simp,λ x hx=>Zar.mpr (st.lt (.inl hx)),by simp⟩
 ·rintro n hn _ h1 ⟨L,B,l,b,c4,c5,c6,c7,x1,rfl,gL,gB,p,sub,len⟩
  rw[Qa] at hn
  have nL:L.Nodup:=(Zas.mp (p.nodup_iff.mpr ZcT)).1
  have lB:B.length=n:=by
   have:=p.length_eq
   rw[ZE,Zae] at this
   omega
  obtain⟨a0,ha0,ns0,ft0⟩:=st.some p sub (by omega)
  rw[VF]
  refine xnx rfl (xseq (xset (Jf rfl (xseq (xfor (WR.mono (itN (l:=L) rfl gL) ?_))))))
  rintro⟨xs,chk⟩ h1' ⟨rfl,rfl,e1'⟩
  rw[e1']
  clear e1' h1'
  have oth:∀{σ:ISt}{h2:IH}{a i:Nat}{t:T1}{e:E1},(∀(n:Nat)(s:ISt)(h:IH),t (Za (.int (n:Int))::Za (.int (a:Int))::s) h=.ok (decide (n≠a)) h)->(∀(n:Nat)(s:ISt)(h2:IH),e (Za (.int (n:Int))::s) h2=.ok (.int (n:Int)) h2)->Ja 2 σ h2=.ok (.ref l) h2->(σ[i]?).join=Za (.int (a:Int))->Ex h1 h2 ->
    ∃g,Js (J0 (Ja 2)) 1 [i] (gNm 0) t e σ h2=.ok (.ref h2.length) (h2++.lst (ni (L.filter λ b=>decide (b≠a)))::g):=λ ht he e2 ej x2 =>
   X7 _ (itN e2 (x2.get gL)) (by omega) (λ h3 z=>z _ _ (x2.get gL)) (λ n _ h3 _=>by rw[Zs,ZaB,ej];exact ht n [] h3) he
  refine Q6 (λ i σ h2=>Ex h1 h2/\∃(c4 c c6 c7:Option IV),σ=[Za (.ref W),Za (.ref S),Za (.ref l),Za (.ref b),c4,c,c6,c7]/\((c=Za .non/\∀j,j<i->L[j]?≠Za a0)∨∃a∈L,a∉left/\c=Za (.int (a:Int)))) (λ _ _ _ q=>q.1.get gL) ?_ ?_ ⟨.refl _,_,_,_,_,rfl,.inl ⟨rfl,λ j hj=>absurd hj (Nat.not_lt_zero _)⟩⟩
  ·rintro i hi _ h2 ⟨x2,c4,c,c6,c7,rfl,q⟩
   have hi':i<L.length:=by simpa using hi
   have ei:(ni L)[i]=.int ((L[i]:Nat):Int):=by simp
   have ha:=ZR hi'
   have eL:=Zc hi'
   rw[ei]
   generalize L[i]=a at ha eL
   refine xnx rfl (xseq (xset ?_))
   obtain⟨g,eg⟩:=oth (σ:=[Za (.ref W),Za (.ref S),Za (.ref l),Za (.ref b),c4,c,Za (.int (a:Int)),c7]) (i:=6) (a:=a) (t:=Jbr (k+7)) (e:=Jbq (k+7)) (λ n s h=>neE rfl rfl) (λ _ _ _=>rfl) rfl rfl x2
   refine Jf eg ?_
   have x3:Ex h2 (h2++IX.lst (ni (L.filter λ b=>decide (b≠a)))::g):=.cons _ _ _
   have gO:(h2++IX.lst (ni (L.filter λ b=>decide (b≠a)))::g)[h2.length]?=Za (.lst (ni (L.filter λ b=>decide (b≠a)))):=Jr
   clear eg
   generalize h2.length=o at gO ⊢
   generalize h2++IX.lst (ni (L.filter λ b=>decide (b≠a)))::g=h3 at x3 gO ⊢
   have x13:=x2.trans x3
   rcases q with⟨rfl,q⟩|⟨a',h1',h2',rfl⟩
   ·by_cases hl:a∈left
    ·refine xiff (andT rfl (andF ((Jpd rfl rfl ((x1.trans x13).get hS)).trans (by rw[decide_eq_false (by simpa using hl)])))) (xnil ⟨x13,_,_,_,_,rfl,.inl ⟨rfl,λ j hj e=>?_⟩⟩)
     rcases ZeB j i with lt|ge
     ·exact q j lt e
     ·have:j=i:=by omega
      subst this
      rw[eL] at e
      cases e
      exact ns0 hl
    ·obtain⟨O,g2,eO,gO2⟩:=add3 (σ:=[Za (.ref W),Za (.ref S),Za (.ref l),Za (.ref b),c4,Za .non,Za (.int (a:Int)),Za (.ref o)]) (a:=Ja 7) (b:=J7 (Jb (Ja 6) Jd)) (c:=Ja 3) (x:=L.filter λ b=>decide (b≠a)) (y:=[a]) rfl gO (lstE (arg1 rfl) rfl) rfl (λ _=>rfl) (x13.get gB) (by
      have:=ZbV (λ b=>decide (b≠a)) L
      simp only[ZC,ZaM]
      omega)
     have x4:Ex h3 (h3++g2):=⟨g2,rfl⟩
     have pc:=X8 nL ha
     have pl:=pc.length_eq
     rw[ZC] at pl
     have eb:(L.filter λ b=>decide (b≠a))++[a]++B=(L.filter λ b=>decide (b≠a))++a::B:=by simp
     rw[eb] at gO2
     refine xif (Jxh (Jf (a:=Ze) rfl ⟨λ _=>Jxh (Jf (Jpd rfl rfl ((x1.trans x13).get hS)) ⟨λ _=>(Xs ..).mpr ((Qj ..).mpr (Jf (arg3 rfl eO (lenE rfl (x4.get (x13.get gL)))) (WR.mono (Jhx (k:=k) (w.kp ((x1.trans x13).trans x4).kp) gO2 (Zbe.trans ((pc.append_right B).trans p)) (by rw[Zo,Zo];omega)) ?_))),λ z=>absurd (of_decide_eq_false z) (by simpa using hl)⟩),λ z=>by cases z⟩))
     rintro _ h5 ⟨⟨t,rfl,ht⟩,x5⟩
     have x15:=(x13.trans x4).trans x5
     refine⟨λ _=>xset (Jf rfl ⟨x15,_,_,_,_,rfl,.inr ⟨a,ha,hl,rfl⟩⟩),λ z=>xnil ⟨x15,_,_,_,_,rfl,.inl ⟨rfl,λ j hj e=>?_⟩⟩⟩
     rcases ZeB j i with lt|ge
     ·exact q j lt e
     ·have:j=i:=by omega
      subst this
      rw[eL] at e
      cases e
      have:=ht.mpr ft0
      rw[this] at z
      cases z
   ·exact xiff (andF rfl) (xnil ⟨x13,_,_,_,_,rfl,.inr ⟨a',h1',h2',rfl⟩⟩)
  ·rintro _ h2 ⟨x2,c4,c,c6,c7,rfl,q⟩
   rcases q with⟨rfl,q⟩|⟨a,ha,na,rfl⟩
   ·obtain⟨j,hj,e⟩:=Zan.mp ha0
    exact absurd (by rw[Zc hj,e]) (q j (by simpa using hj))
   ·refine xseq (xiff rfl (xnil (xseq (xset ?_))))
    obtain⟨g,eg⟩:=oth (σ:=[Za (.ref W),Za (.ref S),Za (.ref l),Za (.ref b),c4,Za (.int (a:Int)),c6,c7]) (i:=5) (a:=a) (t:=Jbt (k+7)) (e:=Jbs (k+7)) (λ n s h=>neE rfl rfl) (λ _ _ _=>rfl) rfl rfl x2
    refine Jf eg ?_
    have x3:Ex h2 (h2++IX.lst (ni (L.filter λ b=>decide (b≠a)))::g):=.cons _ _ _
    have gO:(h2++IX.lst (ni (L.filter λ b=>decide (b≠a)))::g)[h2.length]?=Za (.lst (ni (L.filter λ b=>decide (b≠a)))):=Jr
    clear eg
    generalize h2.length=o at gO ⊢
    generalize h2++IX.lst (ni (L.filter λ b=>decide (b≠a)))::g=h3 at x3 gO ⊢
    have x4:Ex h3 (h3++[IX.lst (ni [a])]++[IX.lst (ni (a::B))]):=(Ex.one _ _).trans (.one _ _)
    have x13:=x2.trans x3
    have pc:=X8 nL ha
    have pl:=pc.length_eq
    rw[ZC] at pl
    refine xset (Jf ((binE (lstE (arg1 rfl) rfl) rfl).trans (Jz ((Yd ..).mpr ⟨_,Jw,_,grow (x13.get gB),by simp;omega,rfl,rfl⟩))) ⟨L.filter λ b=>decide (b≠a),a::B,_,_,_,_,_,_,(x1.trans x13).trans x4,rfl,x4.get gO,Jw,Zbe.trans ((pc.append_right B).trans p),λ x hx=>?_,by omega⟩)
    exact ZL.mpr ⟨sub x hx,decide_eq_true λ z=>na (z▸hx)⟩
 ·rintro _ h1 ⟨L,B,l,b,c4,c5,c6,c7,x1,rfl,_⟩
  exact xret (Jf rfl ⟨rfl,x1⟩)
end
end
section
seal L4.run L4.WS
section
variable {k:Nat}{h:IH}{W S:Nat}{rs:List RH}{top N:Int}{left weak:List Nat}
theorem Jls {c:Int}(w:Wk h W rs top N)(hS:h[S]?=Za (.lst (ni left)))(st:Stuck (λ a=>rs.getD a rd) rs.length left weak):WR (Jaa (k+8) [.ref W,.ref S,.int c] h) λ v h'=>v=.bl Ze/\Ex h h':=by
 have hb:=JC
 have l12:=w.q.l
 obtain⟨vs,gW,wv⟩:=w.y
 have vl:=wv.len
 have ll:left.length+weak.length=rs.length:=by rw[<- ZE,st.p.length_eq,Zae]
 have ln:(ni left).length=left.length:=by simp
 have nl:=st.nl
 rw[Jec]
 have x1:Ex h (h++[IX.lst []]):=.one _ _
 have ty:(tyI (.ref S) h).bind Ql=Za Ze:=by rw[Jlv hS];rfl
 have ee:(left.map λ n:Nat=>(n:Int)).isEmpty=Zj:=by
  have:=st.e
  cases left with
  | nil=>exact absurd rfl this
  | cons _ _=>rfl
 refine xfin (xseq (xiff (orF (notE (truE (isiE rfl ty))) (tofE ((binE rfl (lstE rfl rfl)).trans ((Jhc (x1.get hS) Jw).trans (by rw[ee]))))) (xnil (xseq ?_))))
 generalize h++[IX.lst []]=h1 at x1 ⊢
 have S1:=x1.get hS
 have Y:=@Jn2 h1 h1 (J0 (Ja 1)) (Jam (k+7)) [] [Za (.ref W),Za (.ref S),Za (.int c),Zb,Zb,Zb,Zb,Zb] (ni left) (λ h'=>h'[S]?=Za (.lst (ni left))) (λ v=>.bl ((λ _=>Ze) v))
  (itN rfl S1) (by omega) (λ h2 z=>z _ _ S1) (by
   intro x hx h2 z
   obtain⟨a,ha,rfl⟩:=Z6.mp hx
   exact Jf (Jxs (isiE rfl rfl) rfl) ⟨rfl,.refl _⟩)
 generalize hc:Js _ _ _ _ _ _ _ _=rc at Y
 obtain⟨g2,rfl⟩:=Y
 have at1:((ni left).all λ _=>Ze)=Ze:=by simp
 refine xiff (notE (c:=Ze) (truE ((cbE (arg1 hc)).trans ((all_map (f:=λ _=>Ze) Jr).trans (congrArg (λ b=>Res.ok (IV.bl b) _) at1))))) (xnil (xseq ?_))
 have x2:Ex h (h1++IX.lst ((ni left).map λ _=>.bl Ze)::g2):=x1.trans (.cons _ _ _)
 clear hc x1 S1
 generalize h1++IX.lst ((ni left).map λ _=>.bl Ze)::g2=h2 at x2 ⊢
 -- the numbers that are stuck, rising
 obtain⟨g3,e3⟩:=X7 (h:=h2) (h0:=h2) (it:=iRg JD (Jb (eCB (on1 lenI) (Jb (Ja 0) Jd)) Jd)) (t:=Jao (k+7)) (e:=Jan (k+7)) (js:=[1]) (σ:=[Za (.ref W),Za (.ref S),Za (.int c),Zb,Zb,Zb,Zb,Zb]) (λ n=>decide (n∈left)) (itR (n:=rs.length) ((lenE rfl (x2.get gW)).trans (by rw[vl])) (by omega)) (by rw[Zae];omega) (λ _ _=>trivial) (λ n _ h3 z=>inE rfl rfl (z _ _ (x2.get hS))) λ _ _ _=>rfl
 have ef:(Z8 rs.length).filter (λ n=>decide (n∈left))=left:=Jhg (List.pairwise_lt_range.filter _) st.s λ x=>by
  rw[ZL,Zar,decide_eq_true_eq]
  exact⟨λ q=>q.2,λ q=>⟨st.lt (.inl q),q⟩⟩
 rw[ef] at e3
 have x3:Ex h2 (h2++IX.lst (ni left)::g3):=.cons _ _ _
 refine xiff (tofE ((binE e3 rfl).trans (Jty Jr (x3.get (x2.get hS))))) (xnil (xseq (xset ((Qj ..).mpr ((QV ..).mpr ?_)))))
 clear e3
 have x3:=x2.trans x3
 generalize h2++IX.lst (ni left)::g3=h3 at x3 ⊢
 -- the others
 obtain⟨g4,e4⟩:=X7 (h:=h3) (h0:=h3) (it:=iRg JD (Jb (eCB (on1 lenI) (Jb (Ja 0) Jd)) Jd)) (t:=Jaq (k+7)) (e:=Jap (k+7)) (js:=[1]) (σ:=[Za (.ref W),Za (.ref S),Za (.int c),Zb,Zb,Zb,Zb,Zb]) (λ n=>decide (n∉left)) (itR (n:=rs.length) ((lenE rfl (x3.get gW)).trans (by rw[vl])) (by omega)) (by rw[Zae];omega) (λ _ _=>trivial) (λ n _ h4 z=>Jpd rfl rfl (z _ _ (x3.get hS))) λ _ _ _=>rfl
 have po:((Z8 rs.length).filter λ n=>decide (n∉left)).Perm weak:=(Za8 (List.nodup_range.filter _) (Zas.mp st.nd).2.1).mpr λ x=>by
  rw[ZL,decide_eq_true_eq,<-st.p.mem_iff,ZO]
  exact⟨λ q=>q.1.resolve_left q.2,λ q=>⟨.inr q,λ z=>(Zas.mp st.nd).2.2 x z x q rfl⟩⟩
 refine Jf e4 (Jf (arg1 (JZ rfl rfl (by decide) (by decide))) (WR.mono (Jhy (k:=k+6) Jr (by rw[po.length_eq];omega)) ?_))
 rintro _ h5 ⟨o,others,rfl,gO,po2,x5⟩
 have po:=po2.trans po
 have x5:=(x3.trans (Ex.cons _ _ _)).trans x5
 clear e4 po2
 refine xseq (xfor (WR.mono (itN (l:=left) rfl (x5.get hS)) ?_))
 rintro⟨xs,chk⟩ h5' ⟨rfl,rfl,e5⟩
 rw[e5]
 clear e5 h5'
 refine Q6 (λ i σ h'=>Ex h5 h'/\∃c4 c5,σ=[Za (.ref W),Za (.ref S),Za (.int c),Za (.ref o),c4,c5,Zb,Zb]) (λ _ _ _ q=>q.1.get (x5.get hS)) ?_ ?_ ⟨.refl _,_,_,rfl⟩
 ·rintro i hi _ h6 ⟨x6,c4,c5,rfl⟩
  have hi':i<left.length:=by simpa using hi
  have ei:(ni left)[i]=.int ((left[i]:Nat):Int):=by simp
  have ha:=ZR hi'
  rw[ei]
  generalize left[i]=a at ha
  have xS:=x5.trans x6
  have pc:=X8 nl ha
  have pl:=pc.length_eq
  rw[ZC] at pl
  refine xnx rfl (xseq (xset ((Qj ..).mpr ((QV ..).mpr ?_))))
  obtain⟨g7,e7⟩:=X7 (h:=h6) (h0:=h6) (it:=J0 (Ja 1)) (t:=Jas (k+7)) (e:=Jar (k+7)) (js:=[4]) (σ:=[Za (.ref W),Za (.ref S),Za (.int c),Za (.ref o),Za (.int (a:Int)),c5,Zb,Zb]) (λ n=>decide (n≠a)) (itN (l:=left) rfl (xS.get hS)) (by omega) (λ h7 z=>z _ _ (xS.get hS)) (λ n _ h7 z=>neE rfl rfl) λ _ _ _=>rfl
  refine Jf e7 (Jf (arg1 rfl) (WR.mono (Jhy (k:=k+6) Jr (by omega)) ?_))
  rintro _ h8 ⟨u,above,rfl,gU,pa,x8⟩
  have x8:=(Ex.cons h6 (IX.lst (ni (left.filter λ n=>decide (n≠a)))) g7).trans x8
  clear e7
  have la:=pa.length_eq
  obtain⟨O,g9,e9,g9O⟩:=add3 (h:=h8) (σ:=[Za (.ref W),Za (.ref S),Za (.int c),Za (.ref o),Za (.int (a:Int)),Za (.ref u),Zb,Zb]) (a:=Ja 5) (b:=J7 (Jb (Ja 4) Jd)) (c:=Ja 3) (x:=above) (y:=[a]) rfl gU (lstE (arg1 rfl) rfl) rfl (λ _=>rfl) ((x6.trans x8).get gO) (by
   have:=po.length_eq
   simp only[ZC,ZaM]
   omega)
  have x9:Ex h8 (h8++g9):=⟨g9,rfl⟩
  have eb:above++[a]++others=above++a::others:=by simp
  rw[eb] at g9O
  have x59:=(x6.trans x8).trans x9
  refine xif ((Xs ..).mpr ((Qj ..).mpr (Jf (arg3 rfl e9 (lenE rfl ((x5.trans x59).get hS))) (WR.mono (Jhx (k:=k) (w.kp (x5.trans x59).kp) g9O (Zbe.trans (((pa.append po).cons a).trans (by rw[<- ZH];exact(pc.append_right weak).trans st.p))) (by rw[ln];omega)) ?_))))
  rintro _ h10 ⟨⟨t,rfl,ht⟩,x10⟩
  cases t with
  | true=>exact absurd ((ht.mp rfl).perm (pa.map _) (po.map _)) (st.no a ha)
  | false=>exact⟨(λ z=>by cases z),λ _=>xnil ⟨x59.trans x10,_,_,rfl⟩⟩
 ·rintro _ h6 ⟨x6,c4,c5,rfl⟩
  have xS:=x5.trans x6
  refine xseq (xset ((Qj ..).mpr (Jf (arg2 (lrE (n:=rs.length) ((lenE rfl (xS.get gW)).trans (by rw[vl])) (by omega)) (JZ rfl rfl (by decide) (by decide))) (WR.mono (Jhy (k:=k+6) Jw (by rw[Zae];omega)) ?_))))
  rintro _ h8 ⟨u,os,rfl,gU,pu,x8⟩
  have x8:=xS.trans ((Ex.one _ _).trans x8)
  have lo:=pu.length_eq
  rw[Zae] at lo
  obtain⟨g9,e9⟩:=X7 (h:=h8) (h0:=h8) (it:=iRg JD (Jb (eCB (on1 lenI) (Jb (Ja 6) Jd)) Jd)) (t:=Jau (k+7)) (e:=Jat (k+7)) (js:=[6,1]) (σ:=[Za (.ref W),Za (.ref S),Za (.int c),Za (.ref o),c4,c5,Za (.ref u),Zb]) (λ n=>decide (os.getD n 0∈left)) (itR (n:=os.length) ((lenE rfl gU).trans (by simp)) (by omega)) (by rw[Zae];omega) (λ _ _=>trivial) (λ n hn h9 z=>by
   have hn:=Zar.mp hn
   have eo:atI (ni os) (n:Int)=Za (.int ((os[n]:Nat):Int)):=Qc (by rw[Z0,Z0,Zc hn];rfl)
   refine(inE (n:=os[n]) (ixlE rfl rfl (z _ _ gU) eo) rfl (z _ _ (x8.get hS))).trans ?_
   simp[Z3,hn]) λ _ _ _=>rfl
  generalize hm:(Z8 os.length).filter (λ n=>decide (os.getD n 0∈left))=ms at e9
  have mm:∀n,n∈ms↔∃hn:n<os.length,os[n]∈left:=λ n=>by
   rw[<- hm,ZL,Zar,decide_eq_true_eq]
   constructor
   ·rintro⟨h1,h2⟩
    rw[Z3,Zc h1] at h2
    exact⟨h1,h2⟩
   ·rintro⟨h1,h2⟩
    rw[Z3,Zc h1]
    exact⟨h1,h2⟩
  have ne:ms≠[]:=λ z=>by
   obtain⟨x,hx⟩:=List.exists_mem_of_ne_nil _ st.e
   obtain⟨j,hj,e⟩:=Zan.mp (pu.mem_iff.mpr (Zar.mpr (st.lt (.inl hx))))
   have:=(mm j).mpr ⟨hj,e▸hx⟩
   rw[z] at this
   cases this
  have x9:Ex h8 (h8++IX.lst (ni ms)::g9):=.cons _ _ _
  obtain⟨m,hmm,mx,em⟩:=Jvu (h:=h8++IX.lst (ni ms)::g9) (i:=h8.length) Jr ne
  obtain⟨hm1,hm2⟩:=(mm m).mp hmm
  refine xseq (xset (Jf ((cbE (arg1 e9)).trans em) ?_))
  clear e9 em
  generalize h8++IX.lst (ni ms)::g9=h9 at x9 ⊢
  have es:os=os.take m++os[m]::os.drop (m+1):=by rw[<- Zaw hm1,Zeh]
  refine xret ((Jtc ..).mpr ((Qj ..).mpr (Jf (arg3 rfl rfl (addE rfl rfl)) (WR.mono (Jhx (k:=k) (A:=os.take m) (a:=os[m]) (B:=os.drop (m+1)) (w.kp (x8.trans x9).kp) (by rw[<- es];exact x9.get gU) (by rw[<- es];exact pu) (by rw[Zad];omega)) ?_))))
  rintro _ h10 ⟨⟨t,rfl,ht⟩,x10⟩
  cases t with
  | true =>
   refine absurd (ht.mp rfl) (st.low (by rw[<- es];exact pu) hm2 λ x hx z=>?_)
   obtain⟨j,hj,e⟩:=Zan.mp hx
   rw[List.getElem_drop] at e
   rw[ZcM] at hj
   have:=mx (m+1+j) ((mm _).mpr ⟨by omega,e▸z⟩)
   omega
  | false=>exact⟨rfl,(x8.trans x9).trans x10⟩
end
end
section
seal L4.run L4.WS
def QU (unit:Int)(many:Nat):Int:=if many<=5 then 8*unit+4 else 2*unit+unit/2
structure P71 (unit:Int)(many:Nat)(r:RH):Prop where
 g1:unit<=r.1.gap
 g2:r.1.gap<=QU unit many
 l1:1<=r.1.len
 l2:r.1.len<=2*r.1.gap+1
 d1:1<=r.1.due
 d2:r.1.due<=r.1.gap
 t1:0<=r.1.late
 t2:r.1.late<=r.1.gap/4
 ok:HsOk r.1.len r.2
def nmT (n:Nat):Str:=Zap "press"++(⟨#[97+n]⟩:Str)
theorem Jyx:∀n,n<12->IsNm (nmT n):=by unfold IsNm;decide +kernel
theorem Jvx:∀n,n<12->∀l,l<12->nmT n=nmT l->n=l:=by decide +kernel
theorem cpsT:(Zap "abcdefghijkl").cps.toList=(Z8 12).map (97+ ·):=by decide +kernel
theorem lenS:(Zap "press").length=5:=by decide +kernel
theorem lenT:(Zap "abcdefghijkl").length=12:=by decide +kernel
theorem dw71 {unit:Int}{many:Nat}{rs:List RH}(hu:1<=unit)(hu2:unit<=1000000000000000)(P:∀r∈rs,P71 unit many r)(l:rs.length=many)(hm:many<=12):Dw rs (QU unit many) (if many<=5 then 13 else 3):=by
 have tp:QU unit many<=8*unit+4:=by unfold QU;split<;>omega
 refine⟨λ r hr=>?_,λ r hr=>?_,λ r hr=>(P r hr).ok,λ r hr=>?_,?_,by split<;>decide,by omega⟩
 ·have f:=P r hr
  have f1:=f.g1
  refine⟨by omega,f.l1,f.t1,λ b hb=>?_⟩
  obtain⟨_,h2,h3,h4⟩:=f.ok.each b hb
  unfold LW.tn
  omega
 ·have f:=P r hr
  have f1:=f.g2
  have f2:=f.l2
  have f3:=f.d1
  have f4:=f.d2
  omega
 ·have f:=P r hr
  have f1:=f.g1
  have f2:=f.g2
  have f3:=f.d2
  have f4:=f.t2
  refine⟨by omega,?_⟩
  unfold QU
  split<;>omega
 ·subst l
  split<;>omega
section
variable {k:Nat}{h:IH}
theorem at_x {xs:List Int}{n:Nat}(hn:n<xs.length):∃x,atI (xs.map IV.int) (n:Int)=Za (.int x):=⟨xs[n],Qc (by rw[Z0,Zc hn];rfl)⟩
theorem J0j (n:Int)(h0:0<=n)(h1:n<2):∃w,IsNm w/\atI [IV.str "ink",IV.str "oven"] n=Za (.str w):=by
 have:n=0∨n=1:=by omega
 rcases this with rfl|rfl
 ·exact⟨_,by unfold IsNm;decide +kernel,Vq⟩
 ·exact⟨_,by unfold IsNm;decide +kernel,Vr⟩
theorem J01 {g f m x:Int}(hg:1<=g)(hf:f=1∨f=2∨f=4)(hm:1<=m):0<g*f/(2*m)+1/\1<=1+x%(g*f/(2*m)+1)/\1+x%(g*f/(2*m)+1)<=2*g+1:=by
 have p1:0<=g*f/\g*f<=2*g*2:=by rcases hf with rfl|rfl|rfl<;>omega
 have p3:2*g*2<=2*g*(2*m):=Zav (by omega) (by omega)
 have d0:0<=g*f/(2*m):=Int.ediv_nonneg p1.1 (by omega)
 have d1:g*f/(2*m)<=2*g:=by
  have:=Int.ediv_le_ediv (c:=2*m) (by omega) (Zci p1.2 p3)
  rwa [Int.mul_ediv_cancel _ (by omega)] at this
 have q1:=ZaO x (b:=g*f/(2*m)+1) (by omega)
 have q2:=Zay x (b:=g*f/(2*m)+1) (by omega)
 omega
theorem J0t {unit x y:Int}{many:Nat}(hu:1<=unit):unit<=unit*(1+x%8)+y%5/\(many<=5->unit*(1+x%8)+y%5<=QU unit many):=by
 have b1:unit*1<=unit*(1+x%8):=Zav (by omega) (by omega)
 have b2:unit*(1+x%8)<=unit*8:=Zav (by omega) (by omega)
 refine⟨by omega,λ h=>?_⟩
 unfold QU
 rw[if_pos h]
 omega
theorem gap71' {unit x y:Int}{many:Nat}(hu:1<=unit)(h:¬many<=5):∃m:Int,(if 1+unit/2<5 then 1+unit/2 else 5)=m/\0<m/\unit<=unit*(1+x%2)+y%m/\unit*(1+x%2)+y%m<=QU unit many:=by
 have b1:unit*1<=unit*(1+x%2):=Zav (by omega) (by omega)
 have b2:unit*(1+x%2)<=unit*2:=Zav (by omega) (by omega)
 refine⟨_,rfl,by split<;>omega,?_⟩
 unfold QU
 rw[if_neg h]
 generalize hm:(if 1+unit/2<5 then 1+unit/2 else 5)=m
 have:0<m/\m<=1+unit/2:=by rw[<- hm];split<;>omega
 have q1:=ZaO y (b:=m) (by omega)
 have q2:=Zay y (b:=m) (by omega)
 omega
theorem Jwu {c unit:Int}{name:Str}{many:Nat}(hu:1<=unit)(hu2:unit<=1000000000000000)(hm:1<=many)(hm2:many<=12)(hn:IsNm name) :
  WR (Jek (k+6) [.int c,.str name,.int unit,.int (many:Int)] h) λ v h'=>Ex h h'/\∃r j,P71 unit many r/\r.1.name=name/\v=.ref j/\h.length<=j/\h'[j]?=Za (.ins "Work" (wfs r.1.name r.1.gap r.1.len r.1.due r.1.late (r.2.map tupH))):=by
 have hb:=JC
 rw[Jkc]
 refine xfin (xseq (xset (xb (Jf (arg2 rfl rfl) (WR.mono (Jpy (k:=k+4) (h:=h) c 10 (by decide)) ?_)))))
 rintro _ h1 ⟨i,xs,rfl,_,hi,lx,hx,x1⟩
 clear hx
 have at_:∀n:Nat,n<10->∃x,atI (xs.map IV.int) (n:Int)=Za (.int x):=λ n hn=>at_x (by omega)
 obtain⟨y0,e0⟩:=at_ 0 (by decide)
 obtain⟨y1,e1⟩:=at_ 1 (by decide)
 obtain⟨y2,e2⟩:=at_ 2 (by decide)
 obtain⟨y3,e3⟩:=at_ 3 (by decide)
 obtain⟨y4,e4⟩:=at_ 4 (by decide)
 obtain⟨y5,e5⟩:=at_ 5 (by decide)
 obtain⟨y6,e6⟩:=at_ 6 (by decide)
 obtain⟨y7,e7⟩:=at_ 7 (by decide)
 obtain⟨y8,e8⟩:=at_ 8 (by decide)
 obtain⟨y9,e9⟩:=at_ 9 (by decide)
 clear at_
 suffices rest:∀(g:Int){N:ISt->IH->Prop},unit<=g->g<=QU unit many->WS (Je1 (k+5) [Za (.int c),Za (.str name),Za (.int unit),Za (.int (many:Int)),Za (.ref i),Za (.int g),Zb,Zb,Zb,Zb,Zb,Zb] h1) N
   λ v h'=>Ex h h'/\∃r j,P71 unit many r/\r.1.name=name/\v=.ref j/\h.length<=j/\h'[j]?=Za (.ins "Work" (wfs r.1.name r.1.gap r.1.len r.1.due r.1.late (r.2.map tupH))) by
  obtain⟨z1,z2⟩:=J0t (unit:=unit) (x:=y0) (y:=y1) (many:=many) hu
  refine xseq (xset (Jf (addE (mulE rfl (addE rfl (modE (ixlE rfl rfl hi e0) rfl (by decide))) (.inr (.inl (by omega)))) (modE (ixlE rfl rfl hi e1) rfl (by decide))) (xseq (xifd (gtE rfl rfl) (λ q=>?_) λ q=>xnil (rest _ z1 (z2 (by omega)))))))
  obtain⟨m,em,m0,m1,m2⟩:=gap71' (unit:=unit) (x:=y0) (y:=y1) (many:=many) hu (by omega)
  exact xset (Jf (addE (mulE rfl (addE rfl (modE (ixlE rfl rfl hi e0) rfl (by decide))) (.inr (.inl (by omega)))) (modE (ixlE rfl rfl hi e1) (okc (minE rfl (addE rfl (JZ rfl rfl (by decide) (by decide)))) (congrArg IV.int em)) m0)) (rest _ m1 m2))
 intro g N g1 g2
 obtain⟨f,hf,ef⟩:∃f:Int,(f=1∨f=2∨f=4)/\atI [IV.int 1,IV.int 2,IV.int 4] (y1/5%3)=Za (.int f):=by
  have:y1/5%3=0∨y1/5%3=1∨y1/5%3=2:=by omega
  rcases this with q|q|q<;>rw[q]
  ·exact⟨_,.inl rfl,Vq⟩
  ·exact⟨_,.inr (.inl rfl),Vr⟩
  ·exact⟨_,.inr (.inr rfl),VU⟩
 have t60:(100:Int)<=10^60:=by decide +kernel
 have lm:(2*(many:Int)).natAbs.log2<9000:=Jo7 (by omega) (by omega)
 obtain⟨w0,w1,w2⟩:=J01 (g:=g) (f:=f) (m:=(many:Int)) (x:=y2) (by omega) hf (by omega)
 refine xseq (xset (Jf (addE rfl (modE (ixlE rfl rfl hi e2) (addE (JZ (mulE rfl (pkE (arg3 rfl rfl rfl) rfl (modE (JZ (ixlE rfl rfl (grow hi) e1) rfl (by decide) (by decide)) rfl (by decide)) ef) (.inr (.inl (by omega)))) (mulE rfl rfl (.inl (by decide))) (by omega) lm) rfl) w0)) ?_))
 generalize 1+y2%(g*f/(2*(many:Int))+1)=len at w1 w2
 have xA:Ex h1 (h1++[IX.lst [IV.int 1,IV.int 2,IV.int 4]]):=.one _ _
 generalize h1++[IX.lst [IV.int 1,IV.int 2,IV.int 4]]=hA at xA ⊢
 have hiA:=xA.get hi
 have u:=half (a:=y3) (b:=y4) (g:=g*9/10+1) (by omega)
 have t:=half (a:=y5) (b:=y6) (g:=g/4+1) (by omega)
 refine xseq (xset (Jf (subE rfl (mulE (modE (ixlE rfl rfl hiA e3) rfl (by decide)) (modE (ixlE rfl rfl hiA e4) (addE (JZ (mulE rfl rfl (.inr (.inl (by decide)))) rfl (by decide) (by decide)) rfl) (by omega)) (.inl (by omega)))) ?_))
 refine xseq (xset (Jf (mulE (modE (ixlE rfl rfl hiA e5) rfl (by decide)) (modE (ixlE rfl rfl hiA e6) (addE (JZ rfl rfl (by decide) (by decide)) rfl) (by omega)) (.inl (by omega))) ?_))
 obtain⟨due,ed,u1,u2⟩:∃due,g-y3%2*(y4%(g*9/10+1))=due/\1<=due/\due<=g:=⟨_,rfl,by omega,by omega⟩
 obtain⟨late,et,t1,t2⟩:∃late,y5%2*(y6%(g/4+1))=late/\0<=late/\late<=g/4:=⟨_,rfl,by omega,by omega⟩
 rw[ed,et]
 clear ed et u t
 have xB:Ex h (hA++[IX.lst []]):=(x1.trans xA).trans (.one _ _)
 have fin:∀(hs:List Hd)(h3:IH)(a b:Option IV){N:ISt->IH->Prop},Ex h h3->h3[hA.length]?=Za (.lst (hs.map tupH))->HsOk len hs->WS (Je2 (k+5) [Za (.int c),Za (.str name),Za (.int unit),Za (.int (many:Int)),Za (.ref i),Za (.int g),Za (.int len),Za (.int due),Za (.int late),Za (.ref hA.length),a,b] h3) N
   λ v h'=>Ex h h'/\∃r j,P71 unit many r/\r.1.name=name/\v=.ref j/\h.length<=j/\h'[j]?=Za (.ins "Work" (wfs r.1.name r.1.gap r.1.len r.1.due r.1.late (r.2.map tupH))):=by
  intro hs h3 a b N x3 gq ok
  refine xret ((VN ..).mpr ((QV ..).mpr (Jf rfl ((QV ..).mpr (Jf rfl (Jf (arg4 rfl rfl rfl rfl) ?_))))))
  refine WR.mono (Jvt (k:=k) (hs:=hs.map tupH) hn (by omega) w1 t1 (λ h1=>Jm3 u1 u2) λ h1 z=>Jjj (z _ _ gq) ok) ?_
  rintro _ _ ⟨rfl,g3,rfl⟩
  exact⟨rfl,x3.trans (.cons _ _ _),(⟨name,g,len,due,late⟩,hs),_,⟨g1,g2,w1,w2,u1,u2,t1,t2,ok⟩,rfl,rfl,x3.len,Jr⟩
 have nil0:HsOk len []:=⟨by decide,λ x hx=>(by cases hx),λ m n _ hn=>(by rw[ZaM] at hn;omega)⟩
 have hiB:(hA++[IX.lst []])[i]?=_:=grow hiA
 refine xseq (xset (Jf (lstE rfl rfl) (xseq (xif (Jxh (Jf (gtE rfl rfl) (xdec (λ q=>Jf (eqE (modE (ixlE rfl rfl hiB e7) rfl (by decide)) rfl) (xdec (λ _=>?_) λ _=>xnil (fin [] _ _ _ xB Jw nil0))) λ _=>⟨(λ z=>by cases z),λ _=>xnil (fin [] _ _ _ xB Jw nil0)⟩)))))))
 obtain⟨w,hw,ew⟩:=J0j (y7/3%2) (by omega) (by omega)
 have s0:=ZaO y8 (b:=len-1) (by omega)
 have s1:=Zay y8 (b:=len-1) (by omega)
 obtain⟨st,est,s0,s1⟩:∃st,y8%(len-1)=st/\0<=st/\st<len-1:=⟨_,rfl,s0,s1⟩
 have v0:=ZaO y9 (b:=len-1-st) (by omega)
 have v1:=Zay y9 (b:=len-1-st) (by omega)
 obtain⟨en,een,v0,v1⟩:∃en,st+1+y9%(len-1-st)=en/\st<en/\en<len:=⟨_,rfl,by omega,by omega⟩
 refine xseq (xset (Jf (okc (modE (ixlE rfl rfl hiB e8) (subE rfl rfl) (by omega)) (congrArg IV.int est)) (xseq (xset (Jf (okc (addE (addE rfl rfl) (modE (ixlE rfl rfl hiB e9) (subE (subE rfl rfl) rfl) (by omega))) (congrArg IV.int een)) (Yn (Xt rfl Jw X3 (Jf (arg1 (tupE (arg3 (pkE (arg2 rfl rfl) rfl (modE (JZ (ixlE rfl rfl (grow hiB) e7) rfl (by decide) (by decide)) rfl (by decide)) ew) rfl rfl) rfl)) (xapp (grow Jw) (by show 0<sizeLine;omega) ?_)))))))))
 rw[ZF,ZH,V0]
 refine fin [(w,st,en)] _ _ _ ((x1.trans xA).trans (.cons _ _ _)) Jr ⟨by simp,λ x hx=>?_,λ m n hm hn=>?_⟩
 ·rw[ZI] at hx
  subst hx
  exact⟨hw,s0,v0,v1⟩
 ·rw[ZbT] at hn
  omega
end
end
section
seal L4.run L4.WS L4.WR
section
variable {k:Nat}{h:IH}
theorem e15 (σ:ISt)(h:IH):Jc JK (eC (.int 10)) (eC (.int 15)) σ h=.ok (.int 1000000000000000) h:=Jz (by
 rw[Vl,Qr,Qr,VO]
 exact⟨by decide,congrArg IV.int (by decide +kernel),rfl⟩)
theorem Jrm {xa:Str->Bool}{f c:Str}{o:E1}{σ:ISt}{i j:Nat}(eo:o σ h=.ok (.ref i) h)(e:h[i]?=Za (.exc c [(f,.ref j)]))(r:xa c=Ze):VW xa f o σ h=.ok (.ref j) h:=by
 unfold VW
 rw[eo]
 show(match h[i]? with|some (.exc c [(g,y)])=>if xa c&&decide (g=f) then Res.ok y h else .stuck|some (.hld c [(g,y)])=>if xa c&&decide (g=f) then .ok y h else .stuck|_=>.stuck)=_
 rw[e]
 dsimp only
 rw[r,decide_eq_true rfl]
 rfl
theorem J0a {σ:ISt}{a b:E1}{h1:IH}{P:IV->IH->Prop}(e:a σ h=.ok (.bl Ze) h1)(x:WR (b σ h1) P):WR (eAnd a b tru σ h) P:=by
 rw[Jxs e rfl]
 exact x
theorem osE {e:E1}{σ:ISt}{i:Int}{h1:IH}(q:e σ h=.ok (.int i) h1):Qy e σ h=.ok (Za i) h1:=by unfold Qy;rw[q];rfl
theorem itL {σ:ISt}{a:E1}{i:Nat}{xs:List IV}{h1:IH}(ea:a σ h=.ok (.ref i) h1)(hi:h1[i]?=Za (.lst xs)):WR (J0 a σ h) λ J h2=>J.xs=xs/\J.chk=(λ h'=>h'[i]?=Za (.lst xs))/\h2=h1:=by
 unfold J0
 rw[Jq]
 refine Jf ea ?_
 rw[Qk]
 exact⟨_,hi,rfl,rfl,rfl⟩
theorem Jq3 {W O m:Nat}{rs:List RH}{os:List Nat}{top N:Int}{s:List IV}{x u:Int}{c5 c6 c8 c9:Option IV}(w:Wk h W rs top N)(hO:h[O]?=Za (.lst (ni os)))(p:os.Perm (Z8 rs.length))(al:JR [] (pk rs os))(hm:rs.length=m) :
  ∃h',eCB (on1 allI) (Jb (Js (iRg JD (Jb (Ja 3) Jd)) 1 [7,4] (gNm 0) JJ (Jf2 (k+9))) Jd) [Za (.rol s),Za (.int x),Za (.int u),Za (.int (m:Int)),Za (.ref W),c5,c6,Za (.ref O),c8,c9] h=.ok (.bl Ze) h':=by
 have hb:=JC
 have l12:=w.q.l
 have lo:=p.length_eq
 rw[Zae] at lo
 have Y:=@Jn2 h h (iRg JD (Jb (Ja 3) Jd)) (Jf2 (k+9)) [7,4] [Za (.rol s),Za (.int x),Za (.int u),Za (.int (m:Int)),Za (.ref W),c5,c6,Za (.ref O),c8,c9] (ni (Z8 m)) (λ _=>True) (λ v=>.bl ((λ _=>Ze) v))
  (itR (n:=m) rfl (by omega)) (by simp;omega) (λ _ _=>trivial) (by
   intro v hv h2 z
   obtain⟨a,ha,rfl⟩:=Z6.mp hv
   obtain⟨n,hn,rfl⟩:=Z6.mp ha
   have hn:=Zar.mp hn
   have hn':n<os.length:=by omega
   have es:os=os.take n++os[n]::os.drop (n+1):=by rw[<- Zaw hn',Zeh]
   refine(Qj ..).mpr (Jf (arg3 rfl rfl (addE rfl rfl)) (WR.mono (Jhx (k:=k+2) (A:=os.take n) (a:=os[n]) (B:=os.drop (n+1)) (w.kp z) (by rw[<- es];exact z _ _ hO) (by rw[<- es];exact p) (by rw[Zad];omega)) ?_))
   rintro _ h3 ⟨⟨b,rfl,hb'⟩,x3⟩
   refine⟨congrArg IV.bl (hb'.mpr ?_),x3⟩
   have:=al.at_ (pk rs (os.take n)) (pk rs (os.drop (n+1))) (rs.getD os[n] rd) ((congrArg (pk rs) es).trans (by unfold pk;rw[Zb0,Zs]))
   rwa [Za9] at this)
 generalize hc:Js _ _ _ _ _ _ _ _=rc at Y
 obtain⟨g2,rfl⟩:=Y
 have at1:((ni (Z8 m)).all λ _=>Ze)=Ze:=by simp
 exact⟨_,(cbE (arg1 hc)).trans ((all_map (f:=λ _=>Ze) Jr).trans (congrArg (λ b=>Res.ok (IV.bl b) _) at1))⟩
theorem J0r {ns:List Int}{x u:Int}{W m:Nat}{rs:List RH}{top N:Int}{c5:Option IV}(w:Wk h W rs top N)(hm:rs.length=m){Nx:ISt->IH->Prop} :
  WS (Jns (k+9) [Za (.rol (ns.map IV.int)),Za (.int x),Za (.int u),Za (.int (m:Int)),Za (.ref W),c5,Zb,Zb,Zb,Zb] h) Nx λ v _=>v=.bl Ze:=by
 have hb:=JC
 have l12:=w.q.l
 have x1:Jhi "NoRanks"=Za Ze:=by kernel_rfl
 have xf:xfOf T "stuck" "NoRanks"=Ze:=by kernel_rfl
 obtain⟨T,eT,T0⟩:∃T:Int,(∀σ h,Jc JK (eC (.int 10)) (eC (.int 30)) σ h=.ok (.int T) h)/\0<T:=⟨_,e30,by decide +kernel⟩
 refine xseq (xset (Jf rfl (xseq (xset (Jf (lstE rfl rfl) (xseq (Jz8 _ _ ?_)))))))
 have y1:Ex h (h++[IX.lst []]):=.one _ _
 generalize h++[IX.lst []]=h1 at y1 ⊢
 generalize h.length=E
 obtain⟨vs,gW,wv⟩:=w.y
 rw[Jky,Jqc]
 obtain⟨v,h2,e2,rfl,x2,d2⟩:=(Jk8 (k:=k+6) (y1.get gW) (wv.kp y1.kp) (y1.get w.t) w.q w.nd).eq
 have em:∀{σ:ISt},Ja 4 σ h1=.ok (.ref W) h1->Qn "Duty" (QX (k+9)) [] (Jb (Ja 4) Jd) σ h1=.ok (.ref h1.length) h2:=λ e=>Jz ((VN ..).mpr (Jf (arg1 e) (Jf e2 ⟨rfl,rfl,rfl⟩)))
 refine WE.of (Jf (arg1 (em rfl)) ?_)
 have y2:=y1.trans x2
 refine WE.mono (Jpj (k:=k) d2) ?_ ?_
 ·rintro v h3 ⟨⟨O,os,rfl,l,g,p,a⟩,x3⟩
  obtain⟨h4,e4⟩:=Jq3 (k:=k) (s:=ns.map IV.int) (x:=x) (u:=u) (c5:=c5) (c6:=Za .non) (c8:=Zb) (c9:=Zb) (w.kp (y2.trans x3).kp) g p a hm
  exact xseq (xift rfl (xret (Jf e4 rfl)))
 ·rintro n h3 ⟨⟨j,left,weak,e,gj,st⟩,x3⟩
  refine⟨"NoRanks",_,e,?_⟩
  rw[J1x x1]
  refine xset (Jf (Jrm rfl e xf) (xseq (xiff rfl (xnil (xseq (xfor ?_))))))
  have y3:=y2.trans x3
  have w3:=w.kp y3.kp
  have eS:∀{σ:ISt},Ja 0 σ h3=.ok (.rol (ns.map IV.int)) h3->Ja 3 σ h3=.ok (.int (m:Int)) h3->eSl slI (Ja 0) (Qy (Jc Jl (eC (.int 1)) (Ja 3))) (Qy (Jc Jl (eC (.int 4)) (Ja 3))) σ h3=.ok (.ref h3.length) (h3++[.lst (((ns.take (4+m)).drop (1+m)).map IV.int)]):=λ e0 e3=>by
   refine Jz ((Yl ..).mpr (Jf e0 (Jf (osE (addE rfl e3)) (Jf (osE (addE rfl e3)) ?_))))
   rw[Jl5,show(1:Int)+(m:Int)=((1+m:Nat):Int) by omega,show(4:Int)+(m:Int)=((4+m:Nat):Int) by omega,Juq,<-List.map_take,<-Zew]
   exact⟨rfl,rfl⟩
  refine WR.mono (itL (eS rfl rfl) Jw) ?_
  rintro⟨xs,chk⟩ h4 ⟨rfl,rfl,e4⟩
  rw[e4]
  clear e4 h4 eS
  have x4:Ex h3 (h3++[IX.lst (((ns.take (4+m)).drop (1+m)).map IV.int)]):=.one _ _
  have gC:(h3++[IX.lst (((ns.take (4+m)).drop (1+m)).map IV.int)])[h3.length]?=Za (.lst (((ns.take (4+m)).drop (1+m)).map IV.int)):=Jw
  generalize h3.length=C at gC ⊢
  generalize h3++[IX.lst (((ns.take (4+m)).drop (1+m)).map IV.int)]=h4 at x4 gC ⊢
  generalize (ns.take (4+m)).drop (1+m)=cs at gC ⊢
  have w4:=w3.kp x4.kp
  have S4:=x4.get gj
  refine Q6 (λ i σ h'=>Ex h4 h'/\∃c9,σ=[Za (.rol (ns.map IV.int)),Za (.int x),Za (.int u),Za (.int (m:Int)),Za (.ref W),c5,Za (.ref j),Za (.ref E),Zb,c9]) (λ _ _ _ q=>q.1.get gC) ?_ ?_ ⟨.refl _,_,rfl⟩
  ·rintro i hi _ h5 ⟨x5,c9,rfl⟩
   rw[ZaD]
   refine xnx rfl (xif ((Jil ..).mpr ((Xs ..).mpr ((Qj ..).mpr (Jf (arg3 rfl rfl (modE rfl (eT _ _) T0)) (WR.mono (Jls (k:=k+1) (w4.kp x5.kp) (x5.get S4) st) ?_))))))
   rintro _ h6 ⟨rfl,x6⟩
   exact Jf rfl ⟨(λ z=>by cases z),λ _=>xnil ⟨x5.trans x6,_,rfl⟩⟩
  ·rintro _ h5 ⟨x5,c9,rfl⟩
   obtain⟨v,h6,e6,rfl,x6⟩:=(Jls (k:=k+1) (c:=x/40%T) (w4.kp x5.kp) (x5.get S4) st).eq
   have x56:=x5.trans x6
   refine xret (J0a (X5 (arg3 rfl rfl (modE (JZ rfl rfl (by decide) (by decide)) (eT _ _) T0)) e6) ((Qj ..).mpr (Jf (arg2 rfl rfl) (WR.mono (Jmy (k:=k+1) (w4.kp x56.kp) (x56.get S4) st) ?_))))
   rintro _ _ ⟨rfl,_⟩
   rfl
theorem Jqe {ns:List Int}{x u:Int}{m:Nat}(hu:1<=u)(hu2:u<=1000000000000000)(m1:1<=m)(m12:m<=12)(h0:h[0]?=Za (.tab "longest_hold")){Nx:ISt->IH->Prop} :
  WS (Jnr (k+9) [Za (.rol (ns.map IV.int)),Za (.int x),Za (.int u),Za (.int (m:Int)),Zb,Zb,Zb,Zb,Zb,Zb] h) Nx λ v _=>v=.bl Ze:=by
 have hb:=JC
 have eN:∀{σ:ISt}{h:IH}{n:Nat},n<12->Ja 5 σ h=.ok (.int (n:Int)) h->Jc Jl (eC (.str "press")) (Jc Jk (eC (.str "abcdefghijkl")) (Ja 5)) σ h=.ok (.str (nmT n)) h:=λ {σ h n} hn e6=>by
  have e1:Jk (.str "abcdefghijkl") (.int (n:Int)) h=.ok (.str ⟨#[97+n]⟩) h:=by
   have e:atI (Zap "abcdefghijkl").cps.toList (n:Int)=Za (97+n):=by
    rw[cpsT]
    refine Qc ?_
    rw[Z0,List.getElem?_range hn]
    rfl
   simp only[Jk]
   rw[if_pos (by rw[lenT];omega),e]
  rw[binE rfl ((binE rfl e6).trans e1)]
  exact Jz ((Jid ..).mpr ⟨by rw[lenS];show 5+1<=sizeLine;omega,rfl,rfl⟩)
 refine xseq (xset (Jf (lstE rfl rfl) (xseq (xrng (n:=m) rfl (by omega) ?_))))
 refine Q6 (λ n σ h'=>∃(vs:List IV)(g:IH)(c5:Option IV)(rs:List RH),h'=h++IX.lst vs::g/\σ=[Za (.rol (ns.map IV.int)),Za (.int x),Za (.int u),Za (.int (m:Int)),Za (.ref h.length),c5,Zb,Zb,Zb,Zb]/\AllH h' vs rs/\rs.length=n/\(∀r∈rs,P71 u m r)/\∀i r,rs[i]?=Za r->r.1.name=nmT i) (λ _ _ _ _=>trivial) ?_ ?_ ⟨[],[],Zb,[],rfl,rfl,⟨rfl,λ i v d a=>by simp at a⟩,rfl,(λ r hr=>by cases hr),λ i r e=>by simp at e⟩
 ·rintro n hn _ _ ⟨vs,g,c5,rs,rfl,rfl,w,lr,P,nm⟩
  rw[Qa] at hn
  rw[VF,show(0:Int)+(n:Int)=n by omega]
  have wl:=w.len
  refine xnx rfl (Yn (Xt rfl Jr X3 ((QV ..).mpr ((Qj ..).mpr (Jf (arg4 (X5 (arg2 rfl (addE rfl rfl)) (Jn1 ns (1+(n:Int)) (by omega))) (eN (by omega) rfl) rfl rfl) (WR.mono (Jwu (k:=k+3) hu hu2 m1 m12 (Jyx n (by omega))) ?_))))))
  rintro _ h2 ⟨x2,r,j,f,nr,rfl,lj,gj⟩
  refine Jf rfl (xapp (x2.get Jr) (by omega) ?_)
  obtain⟨g2,rfl⟩:=x2
  rw[ZF,ZH,V0]
  rw[ZF,ZH] at gj
  have kb:KpB h.length (h++IX.lst vs::(g++g2)) (h++IX.lst (vs++[.ref j])::(g++g2)):=λ i o ni e=>by
   rw[<- V0 (o:=IX.lst vs),ZZ (ZW ni)]
   exact e
  have nj:j≠h.length:=λ z=>by rw[z,Jr] at gj;cases gj
  refine⟨_,_,_,rs++[r],rfl,rfl,AllH.snoc ⟨wl,λ i u d a b=>let ⟨i',e,z⟩:=w.at_ i u d a b;⟨i',e,kb _ _ (λ ej=>by rw[ej,Jr] at z;cases z) (by
   have:(h++IX.lst vs::g++g2)[i']?=_:=grow z
   rwa [ZF,ZH] at this)⟩⟩ ⟨j,rfl,kb _ _ nj gj⟩,by rw[ZE,lr];rfl,λ r' hr=>?_,λ i r' e=>?_⟩
  ·rcases ZO.mp hr with q|q
   ·exact P r' q
   ·rw[ZI.mp q]
    exact f
  ·by_cases hi:i<rs.length
   ·rw[Z7 hi] at e
    exact nm i r' e
   ·rw[Zu (by omega)] at e
    have hi':=(Zn.mp e).1
    rw[ZbT] at hi'
    have ei:i=n:=by omega
    subst ei
    rw[lr,ZeA] at e
    cases e
    exact nr
 ·rintro _ _ ⟨vs,g,c5,rs,rfl,rfl,w,lr,P,nm⟩
  rw[Qa] at lr
  have lr:rs.length=m:=by omega
  refine J0r (rs:=rs) ⟨⟨vs,Jr,w⟩,grow h0,dw71 hu hu2 P lr m12,?_⟩ lr
  rw[List.Nodup,List.pairwise_iff_getElem]
  intro i j hi hj hij e
  rw[Zo] at hi hj
  rw[ZaD,ZaD,nm i _ (Zc hi),nm j _ (Zc hj)] at e
  have:=Jvx i (by omega) j (by omega) e
  omega
theorem Jr7 (ns:List Int)(hl:ns.length<=63):∃h',VS 16 [.rol (ns.map IV.int)] [.tab "longest_hold"]=.ok (.bl Ze) h':=by
 suffices h:WR (VS 16 [.rol (ns.map IV.int)] [.tab "longest_hold"]) λ v _=>v=.bl Ze by
  obtain⟨v,h',e,rfl⟩:=h.eq
  exact⟨h',e⟩
 rw[Jxv]
 refine xfin (xseq (xset (Jf (X5 (arg2 rfl rfl) (Jn1 ns 0 (by decide))) ?_)))
 generalize ns.getD (Int.toNat 0) 0=x0
 obtain⟨md,em,hm1,hm2⟩:∃x:Int,atI [IV.int 3,IV.int 1000000000000000] (x0%2)=Za (.int x)/\0<x/\x<=1000000000000000:=by
  have:x0%2=0∨x0%2=1:=by omega
  rcases this with q|q<;>rw[q]
  ·exact⟨_,Vq,by decide,by decide⟩
  ·exact⟨_,Vr,by decide,by decide⟩
 have u0:=ZaO (x0/4) (b:=md) (by omega)
 have u1:=Zay (x0/4) hm1
 obtain⟨m,e1,m1,m2⟩:∃m:Nat,1+x0/8%5=(m:Int)/\1<=m/\m<=12:=⟨(1+x0/8%5).toNat,by omega,by omega,by omega⟩
 obtain⟨l,e2,l1,l2⟩:∃m:Nat,6+x0/320%7=(m:Int)/\1<=m/\m<=12:=⟨(6+x0/320%7).toNat,by omega,by omega,by omega⟩
 refine xseq (xset (Jf (addE rfl (modE (JZ rfl rfl (by decide) (by decide)) (pkE (arg2 rfl (e15 _ _)) rfl (modE rfl rfl (by decide)) em) hm1)) (xseq (xset (Jf (okc (addE rfl (modE (JZ rfl rfl (by decide) (by decide)) rfl (by decide))) (congrArg IV.int e1)) (xseq (xifd (eqE (modE (JZ rfl rfl (by decide) (by decide)) rfl (by decide)) rfl) (λ _=>?_) λ _=>?_)))))))
 ·exact xset (Jf (okc (addE rfl (modE (JZ rfl rfl (by decide) (by decide)) rfl (by decide))) (congrArg IV.int e2)) (Jqe (k:=6) (by omega) (by omega) l1 l2 rfl))
 ·exact xnil (Jqe (k:=6) (by omega) (by omega) m1 m2 rfl)
end
end
end LW
end
namespace LW
open PySem L2 L3 L4
section
local macro_rules | `(tactic| bv_omega) => `(tactic| exact ⟨scOk.of (by decide +kernel), rfl, rfl, λ _ _ _ _ _ _ => by first | exact len1 λ _ => rfl | exact len2 λ _ _ => rfl | exact len3 λ _ _ _ => rfl | exact len4 λ _ _ _ _ => rfl⟩)
variable {K:W.Frag}{h:ZT}{mg:Str->Option Zd}{a:Zi}{oc kV dc pm cd ct:Zd}{od an:Option Zi}{sl:Array (Option Zd)}
theorem Jgk:FnB "__init__" "NoRanks.__init__" Jai:=by bv_omega
theorem Jkk:FnB "is_whole" "is_whole" Jc2:=by bv_omega
theorem Je9:FnB "is_whole_from" "is_whole_from" Jaf:=by bv_omega
theorem Jjy:FnB "rounds_up" "rounds_up" Jca:=by bv_omega
theorem Jm8:FnB "is_name" "is_name" Jd7:=by bv_omega
theorem Jm7:FnB "is_hold" "is_hold" Jd6:=by bv_omega
theorem Jjv:FnB "lie_apart" "lie_apart" Jb7:=by bv_omega
theorem Jm9:FnB "lies_in" "lies_in" Jd8:=by bv_omega
theorem Jgw:FnB "go_together" "go_together" Ja3:=by bv_omega
theorem Jef:FnB "all_go_together" "all_go_together" Jab:=by bv_omega
theorem Jjw:FnB "own_holds" "own_holds" Jb8:=by bv_omega
theorem Jna:FnB "own_due" "own_due" Jd9:=by bv_omega
theorem Jjt:FnScope Qe.N Qe.ps (Jx Qe.st):=scOk.of (by decide +kernel)
theorem Jjh {C:Zi}{T:Zi}{ox:Zd}{oy:Option Zi}{nx:Nat}{sx:Array (Option Zd)}{tk1:Tok}(ha:W.findIn K (.ref C) "__init__"=Za (Za (.ref a)))(hi:W.isFn K (.ref a)=Ze)(hl:K.lookup a=Za ⟨oc,od,.func (W.fnOf "__init__" "Work.__init__" (Qf Qe.st) (JG Qe.st) (Jx Qe.st) (.ref T) kV dc pm an cd ct),sl⟩)(hc:W.codeIn K cd "Work.__init__"=Ze)(hk:W.keepIn K (.ref a)=Ze)(hd:K.lookup T=Za ⟨ox,oy,.seq #[.none,.int 0 tk1,.none] nx,sx⟩)(hm:W.makesIn K C=Ze)(hq:W.keepIn K (.ref C)=Ze):∃fa fd,Mk K C fa/\DefOk K "__init__" Qe fa fd :=
 ⟨a,_,⟨hm,ha,hi,hq⟩,⟨⟨_,⟨oc,od,kV,dc,pm,an,cd,ct,sl,rfl,hl,hc⟩,hk⟩,Jjt,(by intro j hj;rcases J1s j (show j<=3 from hj) with rfl|rfl|rfl|rfl;exact⟨[.none,.int 0 tk1,.none],λ s us Y hl=>len4 (P:=λ us=>Zcw s _ ⟨us,[]⟩ (Qe.ps.zip (us++[.none,.int 0 tk1,.none]))) (λ _ _ _ _=>.of_defaults rfl (Y T _ hd) rfl rfl rfl) us (show us.length=4 by rw[ZE] at hl;exact Zcf (m:=3) hl),rfl,[V.non,V.int 0,V.non],.cons rfl (.cons ⟨_,rfl⟩ (.cons rfl (.nil))),λ _ _=>⟨_,_,rfl,rfl,⟨_,_,rfl,rfl,⟨_,_,rfl,rfl,rfl⟩⟩⟩⟩;exact⟨[.int 0 tk1,.none],λ s us Y hl=>len5 (P:=λ us=>Zcw s _ ⟨us,[]⟩ (Qe.ps.zip (us++[.int 0 tk1,.none]))) (λ _ _ _ _ _=>.of_defaults rfl (Y T _ hd) rfl rfl rfl) us (show us.length=5 by rw[ZE] at hl;exact Zcf (m:=2) hl),rfl,[V.int 0,V.non],.cons ⟨_,rfl⟩ (.cons rfl (.nil)),λ _ _=>⟨_,_,rfl,rfl,⟨_,_,rfl,rfl,rfl⟩⟩⟩;exact⟨[.none],λ s us Y hl=>len6 (P:=λ us=>Zcw s _ ⟨us,[]⟩ (Qe.ps.zip (us++[.none]))) (λ _ _ _ _ _ _=>.of_defaults rfl (Y T _ hd) rfl rfl rfl) us (show us.length=6 by rw[ZE] at hl;exact Zcf (m:=1) hl),rfl,[V.non],.cons rfl (.nil),λ _ _=>⟨_,_,rfl,rfl,rfl⟩⟩;exact⟨[],λ s us Y hl=>len7 (P:=λ us=>Zcw s _ ⟨us,[]⟩ (Qe.ps.zip (us++[]))) (λ _ _ _ _ _ _ _=>.of_defaults rfl (Y T _ hd) rfl rfl rfl) us (show us.length=7 by rw[ZE] at hl;exact Zcf (m:=0) hl),rfl,[],.nil,λ _ _=>rfl⟩)⟩⟩
theorem Jjs:FnB "held" "Work.held" Jb5:=by bv_omega
theorem Jki:FnB "ceilings" "ceilings" Jc0:=by bv_omega
theorem Jh9:FnB "turns_held" "turns_held" Jbj:=by bv_omega
theorem Jgl:FnB "longest_hold" "longest_hold" Jaj:=by bv_omega
theorem Jm5:FnB "hold_up" "hold_up" Jd4:=by bv_omega
theorem Jh7:FnB "comings_in" "comings_in" Jbh:=by bv_omega
theorem Jwi:FnB "load" "load" Jk6:=by bv_omega
theorem Jm6:FnB "in_time" "in_time" Jd5:=by bv_omega
theorem Jpo:FnB "answer" "answer" Jfd:=by bv_omega
theorem Jet:FnB "may_be_weakest" "may_be_weakest" Jae:=by bv_omega
theorem Jgm:FnB "some_weakest" "some_weakest" Jak:=by bv_omega
theorem Jpp:FnB "ranked" "ranked" Jfe:=by bv_omega
theorem Jjx:FnB "own_works" "own_works" Jb9:=by bv_omega
theorem Jkj:FnB "crowd_of" "crowd_of" Jc1:=by bv_omega
theorem Jjp:FnB "__init__" "Duty.__init__" Jb2:=by bv_omega
theorem Jjq:FnB "size" "Duty.size" Jb3:=by bv_omega
theorem Jjr:FnB "work" "Duty.work" Jb4:=by bv_omega
theorem Jh6:FnB "crowd" "Duty.crowd" Jcy:=by bv_omega
theorem Jes:FnB "reordered" "Duty.reordered" Jad:=by bv_omega
theorem Jgx:FnB "_law_cell_at" "_law_cell_at" Ja4:=by bv_omega
theorem Jh8:FnB "_law_stream" "_law_stream" Jbi:=by bv_omega
theorem Jkl:FnB "_law_work" "_law_work" Jc3:=by bv_omega
theorem Jju:FnB "_law_mixed" "_law_mixed" Jb6:=by bv_omega
theorem Jfa:FnB "_law_last_fits" "_law_last_fits" Jag:=by bv_omega
theorem Jgy:FnB "_law_lowered" "_law_lowered" Ja5:=by bv_omega
theorem Jeg:FnB "_law_stuck_right" "_law_stuck_right" Jac:=by bv_omega
theorem Jzq:FnScope Q9.N Q9.ps (Jx Q9.st):=scOk.of (by decide +kernel)
theorem Jys (X:K.In h)(G:h.Ns Zm mg)(ha:W.nsIn K Zm "law"=Za (Za (.ref a)))(hl:K.lookup a=Za ⟨oc,od,.func (W.fnOf "law" "law" (Qf Q9.st) (JG Q9.st) (Jx Q9.st) .none kV dc pm an cd ct),sl⟩)(hc:W.codeIn K cd "law"=Ze)(hk:W.keepIn K (.ref a)=Ze):∃fa fd,mg "law"=Za (.ref fa)/\DefOk K "law" Q9 fa fd/\∀(s:Zk) (v:Zd),Zcw s fd ⟨[v],[]⟩ [("_law_script",v)] :=
 ⟨a,_,W.mg_of X G ha,Jtn (d:=Q9) hl hc hk Jzq rfl (len1 (λ _=>rfl)),λ s v=>.of_eq rfl⟩
theorem Jli {C:Zi}(pg:W.plainGet K C Str.empty=Ze)(hd:W.hasDictIn K C=Ze)(po:W.plainOver K C=Ze)(sa:W.findIn K (.ref C) "__setattr__"=Za (Za (.builtin "object.__setattr__")))(h1:W.findIn K (.ref C) "__class__"=Za (Za (.builtin "object.__class__")))(h2:W.specialIn K (.builtin "object.__class__") "__get__"=Za (Za (.builtin "getset_descriptor.__get__")))(h3:W.takesIn K (.builtin "object.__class__")=Za Ze)(h4:W.mroIn K C (.type "object")=Za Ze)(n0:W.findIn K (.ref C) "append"=Za Zb)(n1:W.findIn K (.ref C) "due"=Za Zb)(n2:W.findIn K (.ref C) "extend"=Za Zb)(n3:W.findIn K (.ref C) "gap"=Za Zb)(n4:W.findIn K (.ref C) "hold_tuples"=Za Zb)(n5:W.findIn K (.ref C) "late"=Za Zb)(n6:W.findIn K (.ref C) "length"=Za Zb)(n7:W.findIn K (.ref C) "name"=Za Zb)(n8:W.findIn K (.ref C) "pop"=Za Zb)(n9:W.findIn K (.ref C) "remove"=Za Zb)(n10:W.findIn K (.ref C) "setdefault"=Za Zb)(n11:W.findIn K (.ref C) "works"=Za Zb):ClsI K C/\All (λ f=>Va K C f) T.flds :=
 ⟨⟨⟨pg,hd,po,sa⟩,h1,h2,h3,h4⟩,.cons n0 (.cons n1 (.cons n2 (.cons n3 (.cons n4 (.cons n5 (.cons n6 (.cons n7 (.cons n8 (.cons n9 (.cons n10 (.cons n11 (.nil))))))))))))⟩
theorem Jlk {C:Zi}(ga:W.findIn K (.ref C) "__getattribute__"=Za (Za (.builtin "BaseException.__getattribute__")))(mb:W.mroIn K C (.type "BaseException")=Za Ze)(gn:W.findIn K (.ref C) "__getattr__"=Za Zb)(ca:W.findIn K (.ref C) "__class__"=Za (Za (.builtin "object.__class__")))(mo:W.mroIn K C (.type "object")=Za Ze)(hd:W.hasDictIn K C=Ze):ExI K C:=⟨ga,mb,gn,ca,mo,hd⟩
abbrev DfO (K:W.Frag)(mg:Str->Option Zd)(x:Str)(d:D4):Prop:=∃fa fd,mg x=Za (.ref fa)/\DefOk K x d fa fd
abbrev DmO (K:W.Frag)(C:Zi)(x:Str)(d:D4):Prop:=∃fa fd,Meth K C x fa/\DefOk K x d fa fd
theorem fin {prog:ZA}{w:ZM}{fa:Zi}(X:K.In h)(G:h.Ns Zm mg)(hfa:mg "law"=Za (.ref fa)){C_Work:Zi}{C_Duty:Zi}{C_BadWork:Zi}{C_BadDuty:Zi}{C_TooMany:Zi}{C_NoRanks:Zi}{C_DutyError:Zi}{tk_MOST_LETTERS:Tok}{tk_MOST_HOLDS:Tok}{tk_THING:Tok}{tk_START:Tok}{tk_END:Tok}{tk_MOST_WORKS:Tok}{tk_MOST_CROWD:Tok}
  (aX_BadWork:W.nsIn K Zm "BadWork"=Za (Za (.ref C_BadWork)))
  (aX_BadDuty:W.nsIn K Zm "BadDuty"=Za (Za (.ref C_BadDuty)))
  (aX_TooMany:W.nsIn K Zm "TooMany"=Za (Za (.ref C_TooMany)))
  (aX_NoRanks:W.nsIn K Zm "NoRanks"=Za (Za (.ref C_NoRanks)))
  (aX_DutyError:W.nsIn K Zm "DutyError"=Za (Za (.ref C_DutyError)))
  (xc_BadWork:W.excIn K C_BadWork [.type "ValueError",.type "Exception",.type "BaseException",.type "object"] "ValueError.__new__"=Ze)
  (xc_BadDuty:W.excIn K C_BadDuty [.type "ValueError",.type "Exception",.type "BaseException",.type "object"] "ValueError.__new__"=Ze)
  (xc_TooMany:W.excIn K C_TooMany [.type "ValueError",.type "Exception",.type "BaseException",.type "object"] "ValueError.__new__"=Ze)
  (ei_BadWork:ExI K C_BadWork)
  (ei_BadDuty:ExI K C_BadDuty)
  (ei_TooMany:ExI K C_TooMany)
  (ei_NoRanks:ExI K C_NoRanks)
  (kk_NoRanks:kits K (.ref C_NoRanks) [(C_BadWork,Zj),(C_BadDuty,Zj),(C_TooMany,Zj),(C_NoRanks,Ze)]=Ze)
  (xn_NoRanks:∃fa fd,JQ K C_NoRanks fa=Ze/\W.keepIn K (.ref C_NoRanks)=Ze/\DefOk K "__init__" Jai fa fd)
  (sx_NoRanks_stuck:StoX K C_NoRanks "stuck")
  (nx_NoRanks_stuck:W.findIn K (.ref C_NoRanks) "stuck"=Za Zb)
  (bx_DutyError:BasX K C_DutyError)
  (aC_Work:W.nsIn K Zm "Work"=Za (Za (.ref C_Work)))
  (aC_Duty:W.nsIn K Zm "Duty"=Za (Za (.ref C_Duty)))
  (f_is_whole:DfO K mg "is_whole" Jc2)
  (f_is_whole_from:DfO K mg "is_whole_from" Jaf)
  (f_rounds_up:DfO K mg "rounds_up" Jca)
  (f_is_name:DfO K mg "is_name" Jd7)
  (f_is_hold:DfO K mg "is_hold" Jd6)
  (f_lie_apart:DfO K mg "lie_apart" Jb7)
  (f_lies_in:DfO K mg "lies_in" Jd8)
  (f_go_together:DfO K mg "go_together" Ja3)
  (f_all_go_together:DfO K mg "all_go_together" Jab)
  (f_own_holds:DfO K mg "own_holds" Jb8)
  (f_own_due:DfO K mg "own_due" Jd9)
  (f_ceilings:DfO K mg "ceilings" Jc0)
  (f_turns_held:DfO K mg "turns_held" Jbj)
  (f_longest_hold:DfO K mg "longest_hold" Jaj)
  (f_hold_up:DfO K mg "hold_up" Jd4)
  (f_comings_in:DfO K mg "comings_in" Jbh)
  (f_load:DfO K mg "load" Jk6)
  (f_in_time:DfO K mg "in_time" Jd5)
  (f_answer:DfO K mg "answer" Jfd)
  (f_may_be_weakest:DfO K mg "may_be_weakest" Jae)
  (f_some_weakest:DfO K mg "some_weakest" Jak)
  (f_ranked:DfO K mg "ranked" Jfe)
  (f_own_works:DfO K mg "own_works" Jb9)
  (f_crowd_of:DfO K mg "crowd_of" Jc1)
  (f_law_cell_at:DfO K mg "_law_cell_at" Ja4)
  (f_law_stream:DfO K mg "_law_stream" Jbi)
  (f_law_work:DfO K mg "_law_work" Jc3)
  (f_law_mixed:DfO K mg "_law_mixed" Jb6)
  (f_law_last_fits:DfO K mg "_law_last_fits" Jag)
  (f_law_lowered:DfO K mg "_law_lowered" Ja5)
  (f_law_stuck_right:DfO K mg "_law_stuck_right" Jac)
  (f_law:∃fa fd,mg "law"=Za (.ref fa)/\DefOk K "law" Q9 fa fd/\∀(s:Zk) (v:Zd),Zcw s fd ⟨[v],[]⟩ [("_law_script",v)])
  (i_Work:∃fa fd,Mk K C_Work fa/\DefOk K "__init__" Qe fa fd)
  (m_Work_held:DmO K C_Work "held" Jb5)
  (c_Work:ClsI K C_Work/\All (λ f=>Va K C_Work f) T.flds)
  (i_Duty:∃fa fd,Mk K C_Duty fa/\DefOk K "__init__" Jb2 fa fd)
  (m_Duty_size:DmO K C_Duty "size" Jb3)
  (m_Duty_work:DmO K C_Duty "work" Jb4)
  (m_Duty_crowd:DmO K C_Duty "crowd" Jcy)
  (m_Duty_reordered:DmO K C_Duty "reordered" Jad)
  (c_Duty:ClsI K C_Duty/\All (λ f=>Va K C_Duty f) T.flds)
  (g_MOST_LETTERS:W.nsIn K Zm "MOST_LETTERS"=Za (Za (.int 8 tk_MOST_LETTERS)))
  (g_MOST_HOLDS:W.nsIn K Zm "MOST_HOLDS"=Za (Za (.int 6 tk_MOST_HOLDS)))
  (g_THING:W.nsIn K Zm "THING"=Za (Za (.int 0 tk_THING)))
  (g_START:W.nsIn K Zm "START"=Za (Za (.int 1 tk_START)))
  (g_END:W.nsIn K Zm "END"=Za (Za (.int 2 tk_END)))
  (g_MOST_WORKS:W.nsIn K Zm "MOST_WORKS"=Za (Za (.int 12 tk_MOST_WORKS)))
  (g_MOST_CROWD:W.nsIn K Zm "MOST_CROWD"=Za (Za (.int 80 tk_MOST_CROWD)))
  (k_Work_NoneType:W.kitOne K (.type "NoneType") (.ref C_Work)=Za Zj)
  (k_Work_bool:W.kitOne K (.type "bool") (.ref C_Work)=Za Zj)
  (k_Work_int:W.kitOne K (.type "int") (.ref C_Work)=Za Zj)
  (k_Work_str:W.kitOne K (.type "str") (.ref C_Work)=Za Zj)
  (k_Work_list:W.kitOne K (.type "list") (.ref C_Work)=Za Zj)
  (k_Work_tuple:W.kitOne K (.type "tuple") (.ref C_Work)=Za Zj)
  (k_Work_dict:W.kitOne K (.type "dict") (.ref C_Work)=Za Zj)
  (k_Work_Work:W.kitOne K (.ref C_Work) (.ref C_Work)=Za (memS "Work" ["Work"]))
  (k_Work_Duty:W.kitOne K (.ref C_Duty) (.ref C_Work)=Za (memS "Duty" ["Work"]))
  (z_all:W.nsIn K Zm "all"=Za Zb)
  (z_bool:W.nsIn K Zm "bool"=Za Zb)
  (z_enumerate:W.nsIn K Zm "enumerate"=Za Zb)
  (z_int:W.nsIn K Zm "int"=Za Zb)
  (z_isinstance:W.nsIn K Zm "isinstance"=Za Zb)
  (z_len:W.nsIn K Zm "len"=Za Zb)
  (z_list:W.nsIn K Zm "list"=Za Zb)
  (z_max:W.nsIn K Zm "max"=Za Zb)
  (z_min:W.nsIn K Zm "min"=Za Zb)
  (z_range:W.nsIn K Zm "range"=Za Zb)
  (z_reversed:W.nsIn K Zm "reversed"=Za Zb)
  (z_set:W.nsIn K Zm "set"=Za Zb)
  (z_sorted:W.nsIn K Zm "sorted"=Za Zb)
  (z_str:W.nsIn K Zm "str"=Za Zb)
  (z_sum:W.nsIn K Zm "sum"=Za Zb)
  (z_tuple:W.nsIn K Zm "tuple"=Za Zb)
  : ∃fd:Zam,(∀(s:Zk) (v:Zd),Zcw s fd ⟨[v],[]⟩ [("_law_script",v)])/\∀base:ZT,K.In base->base.Ns Zm mg->Q7 mg base->FnOk prog w K mg base (CXI prog w) 64 fa fd ["_law_script"] (Xm K "_law_script" (VS 16)):=by
 obtain⟨fa',fd,hm,ok,hb⟩:=f_law
 have e:=hfa.symm.trans hm
 cases e
 have XA:All (λ p:Str×Zi=>W.nsIn K Zm p.1=Za (Za (.ref p.2))/\ExI K p.2) [("BadWork",C_BadWork),("BadDuty",C_BadDuty),("TooMany",C_TooMany),("NoRanks",C_NoRanks)]:=.cons (⟨aX_BadWork,ei_BadWork⟩) (.cons (⟨aX_BadDuty,ei_BadDuty⟩) (.cons (⟨aX_TooMany,ei_TooMany⟩) (.cons (⟨aX_NoRanks,ei_NoRanks⟩) (.nil))))
 have O:TabOk (ceOf [("Work",C_Work),("Duty",C_Duty)]) T K mg:=Jzv _
  (.cons (f_is_whole) (.cons (f_is_whole_from) (.cons (f_rounds_up) (.cons (f_is_name) (.cons (f_is_hold) (.cons (f_lie_apart) (.cons (f_lies_in) (.cons (f_go_together) (.cons (f_all_go_together) (.cons (f_own_holds) (.cons (f_own_due) (.cons (f_ceilings) (.cons (f_turns_held) (.cons (f_longest_hold) (.cons (f_hold_up) (.cons (f_comings_in) (.cons (f_load) (.cons (f_in_time) (.cons (f_answer) (.cons (f_may_be_weakest) (.cons (f_some_weakest) (.cons (f_ranked) (.cons (f_own_works) (.cons (f_crowd_of) (.cons (f_law_cell_at) (.cons (f_law_stream) (.cons (f_law_work) (.cons (f_law_mixed) (.cons (f_law_last_fits) (.cons (f_law_lowered) (.cons (f_law_stuck_right) (.cons (⟨_,_,hm,ok⟩) (.nil)))))))))))))))))))))))))))))))))
  (.cons ((let ⟨fa,fd,p,q⟩:=i_Work;⟨C_Work,fa,fd,W.mg_of X G aC_Work,by kernel_rfl,p,q⟩)) (.cons ((let ⟨fa,fd,p,q⟩:=i_Duty;⟨C_Duty,fa,fd,W.mg_of X G aC_Duty,by kernel_rfl,p,q⟩)) (.nil)))
  (.cons (⟨C_Work,by kernel_rfl,.cons (m_Work_held) (.nil)⟩) (.cons (⟨C_Duty,by kernel_rfl,.cons (m_Duty_size) (.cons (m_Duty_work) (.cons (m_Duty_crowd) (.cons (m_Duty_reordered) (.nil))))⟩) (.nil)))
  (.cons (⟨_,.int 8,W.mg_of X G g_MOST_LETTERS,⟨tk_MOST_LETTERS,rfl⟩,λ _ _=>rfl⟩) (.cons (⟨_,.int 6,W.mg_of X G g_MOST_HOLDS,⟨tk_MOST_HOLDS,rfl⟩,λ _ _=>rfl⟩) (.cons (⟨_,.int 0,W.mg_of X G g_THING,⟨tk_THING,rfl⟩,λ _ _=>rfl⟩) (.cons (⟨_,.int 1,W.mg_of X G g_START,⟨tk_START,rfl⟩,λ _ _=>rfl⟩) (.cons (⟨_,.int 2,W.mg_of X G g_END,⟨tk_END,rfl⟩,λ _ _=>rfl⟩) (.cons (⟨_,.int 12,W.mg_of X G g_MOST_WORKS,⟨tk_MOST_WORKS,rfl⟩,λ _ _=>rfl⟩) (.cons (⟨_,.int 80,W.mg_of X G g_MOST_CROWD,⟨tk_MOST_CROWD,rfl⟩,λ _ _=>rfl⟩) (.nil))))))))
  (.cons (c_Work) (.cons (c_Duty) (.nil)))
  (.cons (⟨C_Work,W.mg_of X G aC_Work,k_Work_NoneType,k_Work_bool,k_Work_int,k_Work_str,k_Work_list,k_Work_tuple,k_Work_dict,.cons (k_Work_Work) (.cons (k_Work_Duty) (.nil))⟩) (.nil))
  (.cons (W.mg_none_of X G z_all) (.cons (W.mg_none_of X G z_bool) (.cons (W.mg_none_of X G z_enumerate) (.cons (W.mg_none_of X G z_int) (.cons (W.mg_none_of X G z_isinstance) (.cons (W.mg_none_of X G z_len) (.cons (W.mg_none_of X G z_list) (.cons (W.mg_none_of X G z_max) (.cons (W.mg_none_of X G z_min) (.cons (W.mg_none_of X G z_range) (.cons (W.mg_none_of X G z_reversed) (.cons (W.mg_none_of X G z_set) (.cons (W.mg_none_of X G z_sorted) (.cons (W.mg_none_of X G z_str) (.cons (W.mg_none_of X G z_sum) (.cons (W.mg_none_of X G z_tuple) (.nil)))))))))))))))))
  (.cons (⟨C_BadWork,W.mg_of X G aX_BadWork,aX_BadWork,xc_BadWork⟩) (.cons (⟨C_BadDuty,W.mg_of X G aX_BadDuty,aX_BadDuty,xc_BadDuty⟩) (.cons (⟨C_TooMany,W.mg_of X G aX_TooMany,aX_TooMany,xc_TooMany⟩) (.nil))))
  (.cons (⟨(.ref C_NoRanks),.inl (W.mg_of X G aX_NoRanks),J0b (bs:=[Zj,Zj,Zj,Ze]) XA rfl kk_NoRanks⟩) (.nil))
  (xms:=.cons ((let ⟨fa,fd,p,q,r⟩:=xn_NoRanks;⟨C_NoRanks,fa,fd,W.mg_of X G aX_NoRanks,aX_NoRanks,p,q,Jxt p,r⟩)) (.nil))
  (xfs:=.cons (.cons (⟨C_NoRanks,aX_NoRanks,sx_NoRanks_stuck,ei_NoRanks,nx_NoRanks_stuck⟩) (.nil)) (.nil))
  (xbs:=.cons (⟨C_DutyError,W.mg_of X G aX_DutyError,bx_DutyError⟩) (.nil))
 exact⟨fd,hb,λ base _ _ B=>Jvq O (λ _=>B) 16 rfl ok⟩
end
end LW
open PySem L2
theorem LW.walk {l:W.OpenLaw}{q:ZA}{loose:List Str}{XP:(Str->Option Zd)->ZT->Prop}{YP:ZM->ZT->Prop}{d:DefRec}{K:Params->W.Frag}{ts:List Zi}(hn:l.most=Za 63)(hdf:d.params.defaults=[])
  (hY:∀(w:ZM) (h:ZT),YP w h->(K w.params).In h/\∀p∈ts,h.get? p=Za (W.tabObj #[]))(hc:∀w:ZM,L4.QM (K w.params) ["longest_hold"] ts=Ze)
  (F:∀(w:ZM)(mg:Str->Option Zd)(fa:Zi)(h:ZT),(K w.params).In h->h.Ns Zm mg->mg d.name=Za (.ref fa) ->
   ∃fd:Zam,(∀(s:Zk) (u:Zd),Zcw s fd ⟨[u],[]⟩ [("_law_script",u)])/\∀base:ZT,(K w.params).In base->base.Ns Zm mg->L3.Q7 mg base->FnOk l.prog w (K w.params) mg base (L3.CXI l.prog w) 64 fa fd ["_law_script"] (L3.Xm (K w.params) "_law_script" (LW.VS 16))) :
  W.WalkO q loose XP YP l.row.toRowW d [] (λ f vs=>PySem.call f vs) :=
 L4.Js7 (n:=63) (k:=64) (x:="_law_script") (f:=LW.VS 16) (qs:=["longest_hold"]) (ts:=ts) hn (by decide) hdf ⟨rfl,by decide,by decide⟩ hY hc F λ ns hl=>LW.Jr7 ns hl
open PySem PySem.W PyProof.Rows
structure PySem.W.Fast:Prop where (tw4323960444136704408 tw6353367881010798258 tw11446688260570197030 tw3916354623041485158 tw10982708837482414632 tw12096028899593258587 tw11948951163421767836 tw18142267391620244273 tw1522357496953984355 tw15830984479554276862
tw9331166735291909763 tw12105220403524785147 tw15356044914604244758 tw29768814288799770 tw5719668120781695614 tw14890993560939029495 tw10212806118194608809 tw18104132953685996257 tw10566084757559639111 tw15070441355061134944
tw3374690524919344753 tw4657165249693096445 tw18323996449109660102 tw13759271849840526680 tw13959299272854657003 tw12965274894669260993 tw16417404757004250240 tw8762021242829855282 tw13497432742782603282 tw14998396989763991128
tw10884077893208739247 tw3197968671982257213 tw13866487621823959279 tw6102702172557151887 tw14882579907911485575 tw18106670836569029805 tw5472125239240181520 tw7053751394293322396 tw14235495704013789305 tw11611591871940120424
tw4760698109126817351 tw14218878150366558911 tw17706647751979027790 tw10821357020339291662 tw15167992785409098738 tw1242695081932554597 tw9615176514228598402 tw13295971693643696609 tw12714017489160938223 tw15142439534079945509
tw6796768868514901322 tw15650231296417651764 tw5735317056869490279 tw12600034189448189560 tw18063617171554829975 tw8652747399537341761 tw2694828040150288496 tw11687498533169768665 tw11564074980320495504 tw11022837357473028168
tw13064714792182973496 tw11041879208423845249 tw3919534645823361650 tw726266553551520793 tw11208591415673638727 tw14667924321276217708 tw15397573701494458479 tw18125776735582362321 tw7106474042184295924 tw8715274722813661694
tw7156359326871794333 tw2374658082547182662 tw2618059527369335353 tw9088374833302521671 tw2960008616743163609 tw5629075506714073694 tw17284143579903144841 tw2657002505076803470 tw10901840982717198271 tw13277916814500345814
tw16575742942338460676 tw15164542361016000770 tw16337320977926849129 tw7819961804720968604 tw17896480219763979116 tw2702593948223769061 tw5671752989387984789 tw792145469486433019 tw12750876395169381320 tw10377708413231433447
tw11917202021687433915 tw10757898046377863141 tw7855122930567748295 tw5917084889613408169 tw17723228330251305989 tw93846623231278627 tw8530327249064640476 tw8889716362845044194 tw18098003404306999558 tw3813932626491569947
tw3749516996351451127 tw7004429218145471399 tw8544435113678568368 tw10622593030916124267 tw8893168236918100746 tw7136691852201107317 tw9473570545312694868 tw12295635601222649724 tw15024652386568914139 tw8203081481005823910
tw5901716439172022712 tw9429028760400664236 tw11169721503231716263 tw265992445902794613 tw1426878873530207130 tw15260952649680602523 tw3056573884203118999 tw4150620938733711644 tw8205838916562133462 tw4775623308455496497
tw4193290932092243179 tw998694749344025876 tw8248629148560703345 tw13280796480972824962 tw7693281264726360351 tw17170011067574045598 tw4358049808151009630 tw17431398475477346884 tw9432694066193479087 tw8003033126681046281
tw12724174857121018321 tw4261271946122067672 tw17631691413605416694 tw17444625381665529290 tw9460707886101384729 tw3383089146668915279 tw7481063786176984071 tw13212118497608671330 tw3495203023161195680 tw17806982369804522022
tw9487124885881474764 tw1723538955628807942 tw3466323381099844262 tw5246626611520004621 tw16545595574876365359 tw4738638211429581654 tw559625002139851157 tw7338541165980816987 tw17804102070500596397 tw1236254519026150615
tw12961745045755659822 tw17627829021610851634 tw13389139372988685901 tw11186673261351036558 tw11692738613921072406 tw13603019141474189568 tw16057659256771168871 tw1138802743081133418 tw17958970357122836764 tw4159282053609234560
tw15234485323403948224 tw3609479961529471194 tw8186942920822498458 tw12600464949400151514 tw7197525922347333901 tw3033828963190042430 tw4330674563578652807 tw2965675234880779507 tw6097393774914956342 tw15011385297486646998
tw18105404958112488583 tw8779946747429541083 tw18212369357831642916 tw2164572207158112316 tw4090796267378457403 tw8700272578975150800 tw6958330419170066585 tw10286455594873606641 tw11051000242144342631 tw10341393414005219833
tw7848302591450164494 tw16734629722542424820 tw1721486626783487542 tw11516194850600586651 tw11787297616725512391 tw2952904218630629683 tw4468384682173602213 tw9848986039262630383 tw3160278096169450881 tw12260043535647517019
tw4568641037971647047 tw137031856042755493 tw13424351315680838680 tw14917708557330695299 tw2815632983807144519 tw2042613197772657894 tw12182377280390862814 tw7079256045012203205 tw9973415998321335095 tw4827812880261438751
tw9078120475256761205 tw9459829380670002762 tw14897137376550593003 tw12788123678243229642 tw3622383529541428840 tw2850979445659334907 tw18396320692852980547 tw13282280223957604687 tw14270930220031947766 tw8990322541853137875
tw4751908103629221575 tw5915170652199858042 tw3079353853113912486 tw13010435279071076081 tw16981956413012913722 tw10343491051445143866 tw625598645541445278 tw10746837597578146158 tw6480359340132582593 tw10885997879826115841
tw1840981068496836419 tw4783822314033314069 tw8943683146476242432 tw10794340845423452182 tw450610702372952392 tw5986850071523598583 tw7164331663548332135 tw15885202519642123188 tw10726051913982794270 tw3843488093241904977
tw531300925502053616 tw8499126938972840033 tw8901959632804617888 tw1752415331250635478 tw6891587184491921268 tw4981691475474579634 tw15295158262659243071 tw3299187282463587293 tw16980639314809643572 tw9422412785300504300
tw659295332497974670 tw2850029442223261610 tw14139372604438779874 tw11894072224549039238 tw14853601908822309953 tw10734371604472405071 tw889306961807118750 tw1466599796851760769 tw5599549821037964767 tw11189962654706191582
tw17274105078125657489 tw16345075085874938850 tw15308064622255409643 tw14993276322196775310 tw12735524522644924206 tw15596637733983650851 tw4995011001772124316 tw16882245890424227387 tw16464025200007321650 tw17736726417605696389
tw15880286303074952001 tw16246199651216187407 tw3988288604548627088 tw4935816090152173567 tw15748962339740567620 tw12905621744594255286 tw10047336672975329866 tw13387160930519456103 tw4242295555810041483 tw5298576305587684130
tw9606456044963608720 tw11816486143676864259 tw382661897325618428 tw8313049492023036670 tw11292774836719453564 tw13765347299298587349 tw2004992598612937601 tw620599119874359068 tw18308468928694028133 tw12859473594712896039
tw9859381958213027651 tw15580657561736326823 tw5645481573694207164 tw13932953770944107490 tw7009451830729511666 tw16478040613251991172 tw2408416843554573967 tw14020956815021861217 tw16651144531125013209 tw4231807700676845215
tw10785588510219199898 tw14471632398687037304 tw9625409530416878054 tw11076210579536364451 tw15207038145973352720 tw2160557173389312737 tw4696516296555214785 tw1181927484101517915 tw14707829907076289694 tw157319314365555713
tw15105395792401700206 tw1180965002270297998 tw1780060941100018406 tw17315883073738789304 tw9614919081683144193 tw18025433872250442777 tw7054233867774659922 tw634597662269916970 tw8987727861951767193 tw14230247457506414224
tw12686679006089317113 tw18210003667491431372 tw13388568568868754310 tw1596689527374447245 tw3864618235750031481 tw9893882403213231378 tw16756238270158718500 tw68760336190099311 tw1177877314948333787 tw16598544327448190402
tw16189796024070975233 tw4971451920310462396 tw12919649108630030428 tw16483716900223916071 tw461321917665183662 tw15954495894567890780 tw443861820863165293 tw3324425156223858086 tw16268937127517678529 tw5841869676442151557
tw11975128107513519826 tw17897776519965651061 tw7735917859757763282 tw5902631761376220741 tw16700251633706535813 tw361129056084859375 tw7201368469088450379 tw8971795542364085303 tw9183291851320603336 tw4564280472852055516
tw2664263312110642733 tw13377342657660024554 tw1336945423018915955 tw2893034303010875552 tw3090328109095416846 tw3061954528689560784 tw8015376107474487572 tw8932000807621532587 tw14422521902016432536 tw16314523188062002307
tw12648918323162070301 tw14333283193303205007 tw9980175768325147397 tw4708494654828167032 tw10001783213624001898 tw1898390369032986463 tw1881679732623777650 tw10180941459980600575:True)
set_option maxRecDepth 100000 in
set_option maxHeartbeats 0 in
theorem PySem.Challenge.cw_dutyproof_k72_stuck_holds : PySem.Challenge.rw_dutyproof_k72_stuck.Holds := by
 w_on;o_law;k_head;(case hw=>w_witness2)
 k_fill
 refine LW.walk (l:=PySem.Challenge.rw_dutyproof_k72_stuck) rfl rfl (λ w h Y=>⟨W.km_in_of Y,W.km_tabs_of Y⟩) ?HC ?F
 case HC=>exact λ w=>by kernel_rfl
 case F =>
  intro w mg fa h KX G hmg
  refine' LW.fin KX G hmg ?aA ?aB ?aD ?aE ?aF ?aG ?aH ?aI ?aJ ?aK ?aL ?aM ?aN ?aO ?aP ?aQ ?aR ?aS ?aT ?aU ?aV ?aW ?aX ?aY ?aZ ?bA ?bB ?bC ?bD ?bE ?bF ?bG ?bH ?bI ?bJ ?bK ?bL ?bM ?bN ?bO ?bP ?bQ ?bR ?bS ?bT ?bU ?bV ?bW ?bX ?bY ?bZ ?cA ?cB ?cC ?cD ?cE ?cF ?cG ?cH ?cI ?cJ ?cL ?cM ?cN ?cO ?cP ?cQ ?cR ?cT ?cU ?cV ?cW ?cX ?cY ?cZ ?dA ?dB ?dC ?dD ?dE ?dF ?dG ?dH ?dI ?dJ ?dK ?dL ?dM ?dN ?dO ?dP ?dQ
  (case aA|aB|aD|aE|aF=>k_is)
  (case aG=>k_exc)
  (case aH=>k_exc)
  (case aI=>k_exc)
  (case aJ=>(refine' LW.Jlk ?dR ?dS ?dT ?dU ?dV ?dW;(case dR|dS|dT|dU|dV|dW=>k_is)))
  (case aK=>(refine' LW.Jlk ?dX ?dY ?dZ ?eA ?eB ?eC;(case dX|dY|dZ|eA|eB|eC=>k_is)))
  (case aL=>(refine' LW.Jlk ?eD ?eE ?eF ?eG ?eH ?eI;(case eD|eE|eF|eG|eH|eI=>k_is)))
  (case aM=>(refine' LW.Jlk ?eJ ?eK ?eL ?eM ?eN ?eO;(case eJ|eK|eL|eM|eN|eO=>k_is)))
  (case aN=>kernel_rfl)
  (case aO=>exact L4.Jyt LW.Jgk (by k_is) (by k_is) (by k_is) (by k_is) (by kernel_rfl) (by k_is))
  (case aP=>(refine' L3.StoX.mk ?eP ?eQ ?eR;(case eP=>kernel_rfl);(case eQ=>kernel_rfl);(case eR=>k_is)))
  (case aQ=>k_is)
  (case aR=>(refine' L3.BasX.mk ?eS ?eT ?eU;(case eS|eT|eU=>k_is)))
  (case aS|aT=>k_is)
  (case aU=>exact L4.J6 KX G LW.Jkk)
  (case aV=>exact L4.J6 KX G LW.Je9)
  (case aW=>exact L4.J6 KX G LW.Jjy)
  (case aX=>exact L4.J6 KX G LW.Jm8)
  (case aY=>exact L4.J6 KX G LW.Jm7)
  (case aZ=>exact L4.J6 KX G LW.Jjv)
  (case bA=>exact L4.J6 KX G LW.Jm9)
  (case bB=>exact L4.J6 KX G LW.Jgw)
  (case bC=>exact L4.J6 KX G LW.Jef)
  (case bD=>exact L4.J6 KX G LW.Jjw)
  (case bE=>exact L4.J6 KX G LW.Jna)
  (case bF=>exact L4.J6 KX G LW.Jki)
  (case bG=>exact L4.J6 KX G LW.Jh9)
  (case bH=>exact L4.J6 KX G LW.Jgl)
  (case bI=>exact L4.J6 KX G LW.Jm5)
  (case bJ=>exact L4.J6 KX G LW.Jh7)
  (case bK=>exact L4.J6 KX G LW.Jwi)
  (case bL=>exact L4.J6 KX G LW.Jm6)
  (case bM=>exact L4.J6 KX G LW.Jpo)
  (case bN=>exact L4.J6 KX G LW.Jet)
  (case bO=>exact L4.J6 KX G LW.Jgm)
  (case bP=>exact L4.J6 KX G LW.Jpp)
  (case bQ=>exact L4.J6 KX G LW.Jjx)
  (case bR=>exact L4.J6 KX G LW.Jkj)
  (case bS=>exact L4.J6 KX G LW.Jgx)
  (case bT=>exact L4.J6 KX G LW.Jh8)
  (case bU=>exact L4.J6 KX G LW.Jkl)
  (case bV=>exact L4.J6 KX G LW.Jju)
  (case bW=>exact L4.J6 KX G LW.Jfa)
  (case bX=>exact L4.J6 KX G LW.Jgy)
  (case bY=>exact L4.J6 KX G LW.Jeg)
  (case bZ=>(refine' LW.Jys KX G ?eV ?eW ?eX ?eY;(case eV|eW|eX|eY=>k_is)))
  (case cA=>(refine' LW.Jjh ?eZ ?fA ?fB ?fC ?fD ?fE ?fF ?fG;(case eZ|fA|fB|fC|fD|fE|fF|fG=>k_is)))
  (case cB=>exact L4.XO LW.Jjs)
  (case cC=>(refine' LW.Jli ?fH ?fI ?fJ ?fK ?fL ?fM ?fN ?fO ?fP ?fQ ?fR ?fS ?fT ?fU ?fV ?fW ?fX ?fY ?fZ ?gA;(case fH|fI|fJ|fK|fL|fM|fN|fO|fP|fQ|fR|fS|fT|fU|fV|fW|fX|fY|fZ|gA=>k_is)))
  (case cD=>exact L4.J03 LW.Jjp)
  (case cE=>exact L4.XO LW.Jjq)
  (case cF=>exact L4.XO LW.Jjr)
  (case cG=>exact L4.XO LW.Jh6)
  (case cH=>exact L4.XO LW.Jes)
  (case cI=>(refine' LW.Jli ?gB ?gC ?gD ?gE ?gF ?gG ?gH ?gI ?gJ ?gK ?gL ?gM ?gN ?gO ?gP ?gQ ?gR ?gS ?gT ?gU;(case gB|gC|gD|gE|gF|gG|gH|gI|gJ|gK|gL|gM|gN|gO|gP|gQ|gR|gS|gT|gU=>k_is)))
  (case cJ|cL|cM|cN|cO|cP|cQ=>k_is)
  (case cR|cT|cU|cV|cW|cX|cY|cZ|dA=>kernel_rfl)
  (case dB|dC|dD|dE|dF|dG|dH|dI|dJ|dK|dL|dM|dN|dO|dP|dQ=>k_is)

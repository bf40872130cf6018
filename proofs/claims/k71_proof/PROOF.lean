import PyProof.Rows.All
import Wide.All
import OpenK.AllK
import Wide.FinOn
import Lean
import PyProof.EqAt
import PyProof.EqKinds
import PyProof.TupleCall
import PyProof.ExcBaseAll.ValueError
import PyProof.ExcAttrAll.ValueError
import PyProof.NsDelKeeps
import PySem.Challenge.RW_dutyproof_k71_ranks_found
open Option renaming some→Za,none→Zc,map_eq_some_iff→Z5,isSome_iff_exists→Za6,join_some→ZaW,bind_some→Zb3,map_some→ZbA,getD_some→Zcn,bind_eq_some_iff→ZdT
open List renaming getElem?_eq_getElem→Zb,mem_cons_of_mem→Zn,getElem?_eq_some_iff→Zo,length_map→Zp,mem_cons_self→Zs,map_cons→Zu,getD_eq_getElem?_getD→Zw,mem_append_right→Zx,mem_map→Zz,size_toArray→Z2,getElem?_append_right→Z4,getElem?_map→Z7,range→Z8,length_cons→ZB,getElem?_append_left→ZC,length_append→ZD,mem_singleton→ZE,append_assoc→ZF,mem_cons→ZH,getElem_mem→ZI,length_take→ZN,replicate→ZO,cons_append→ZS,getElem?_set_self→ZU,take_succ_eq_append_getElem→ZV,mem_append→ZW,getElem?_set_ne→ZX,getElem?_cons_succ→ZY,lookup_cons→Zab,all_cons→Zaf,getElem?_cons_zero→Zag,mem_of_mem_take→Zaj,mem_filter→Zak,mem_append_left→Zao,take_of_length_le→Zaq,length_nil→Zau,nodup_append→Zav,mem_iff_getElem→Zaw,drop_eq_getElem_cons→Zay,map_nil→Zaz,append_nil→Za2,nil_append→Za3,findIdx?_eq_some_iff_getElem→Za5,getElem_map→Za8,not_mem_nil→ZaJ,eq_nil_of_length_eq_zero→ZaN,mem_range→ZaP,replicate_succ→Zbc,nodup_cons→Zbd,length_drop→Zbf,sum_cons→Zbl,set_append_left→Zbn,length_range→Zbp,find?_cons→Zbq,map_append→Zbr,length_reverse→Zbu,toArray→Zby,set_cons_zero→Zb4,perm_ext_iff_of_nodup→Zb6,getElem?_eq_none→Zb8,lookup→ZbB,flatten_cons→ZbD,getElem?_replicate→ZbL,filter_cons→ZbM,all_eq_true→ZbO,any_eq_true→ZbR,any_cons→ZbW,length_replicate→ZbX,getElem?_reverse→ZbY,ext_getElem?→Zcc,getElem_take→Zcd,mem_of_getElem?→Zcg,mem_of_mem_drop→Zck,map_map→Zco,mem_flatten→Zcp,getElem?_eq_none_iff→Zcq,getElem_append_left→Zcy,getElem?_take→Zc8,set_cons_succ→Zc9,reverse_cons→ZcL,drop_eq_nil_of_le→ZcN,mapM_cons→ZcQ,length_singleton→ZcT,set_append_right→ZcU,length_filter_le→ZcV,of_mem_zip→Zdh,length_set→Zdj,filterMap_cons→Zdl,findIdx?_cons→Zd1,findIdx?_eq_none_iff→Zd4,getElem_drop→Zd8,map_drop→ZdH,getElem_inj→ZdI,drop_length→ZdU,perm_middle→ZdV,length_eq_zero_iff→ZdW,filter_cons_of_neg→ZdX,filter_cons_of_pos→ZdY,filter_nil→Zeh,mem_iff_getElem?→Zek,getElem?_toArray→Zel,map_take→Ze2,any_map→ZeL
open Bool renaming true→Zd,false→Zh,and_eq_true→Zl,false_ne_true→Zq,false_eq_true→Zac,or_eq_true→Za4,not_eq_true'→ZaO,eq_false_iff→Zba,true_eq_false→Zb5,eq_iff_iff→ZbT,not_false→Zcj,not_true→Zcw,or_eq_false_iff→Zdd,and_eq_true_iff→Zdf,or_true→ZeG
open PySem renaming Value→Ze,wpAny_bind→Zg,Addr→Zj,Shared→Zk,mainGlobals→Zm,wpAny→Zt,wpAny_pure→Zv,model→Z3,starEach→Z9,Program→ZA,Around→ZG,World→ZM,wpAny_mono→ZP,wpAny_Call_Name_kw→ZQ,Heap→ZZ,mem_of_lookup→Zae,wpAny_holding→Zam,compareOp→Zan,FuncData→Zap,wpAny_tryCatch→ZaF,codeAny_builtin→ZaH,assignEach→ZaL,eval→ZaQ,binaryOp→ZaT,sizeLine_eq→ZaU,backTo→ZaX,Scope→ZaY,wpAny_pyIter_list→ZaZ,NameKind→Zbe,behindInMarks→Zbj,ExceptHandler→Zbk,wpAny_truthy_bool→Zbo,bootBuiltins→Zbv,wpAny_standAt→Zbz,wpAny_field→Zb0,plainId_quiet→Zb1,Stmt→Zb2,foldedSetIterable→ZbE,codeAny_call_builtin→ZbF,wpAny_letGo→ZbG,Spec→ZbH,rawInt→ZbK,wpAny_setField→ZbN,wpAny_seqItems→ZbP,codeAny_mono→ZbS,wpAny_execs_nil→ZbU,wpAny_updateSeq→ZbV,codeAny→ZbZ,wpAny_loadPart_at→Zcb,scanBound→Zcm,pyNext→Zcs,letOwnedTupleGo→Zcz,BindsTo→Zc0,sysModules→Zc4,builtinsNs→Zc5,wpAny_call→Zc6,Arguments→ZcB,sliceBounds→ZcC,swapsWith→ZcD,keywordEach→ZcE,wpAny_pyNext_list_item→ZcH,wpAny_newObj_type→ZcM,Builtin→ZcO,PyData→ZcP,plainObj_wpAny_Assign_Attribute→ZcS,setFlight→ZcY,seqItems?→ZcZ,attributeBase→Zda,holding→Zdb,strKind→Zdc,Keyword→Zdo,wpAny_newFunctionEnv_cells→Zdu,call_meets→Zdv,closureFor→Zdx,excClassObj→Zd6,intBits_le_64→Zd9,Result→ZdA,wpAny_newList→ZdF,getMethod→ZdJ,bindArgs→ZdK,codeAmong→ZdN,lastMarks→ZdO,wpAny_execs_cons→ZdP,noteFrame→ZdQ,backToKw→ZdR,wpAny_rule→Zeb,ExcBaseFacts→Zed,wpAny_loadPart'→Zef,fresh→Zeg,wpAny_pyNext_list_end→Zei,codeAny_call_function→Zej,wpAny_loadPart→Zeo,subscripted→Zep,assign→Zer,getItem→Zew,callerA→Zex,cLine→Zez,assignInOrder→Ze0,wpAny_attempt→Ze1,isTrue→Ze3,pyIter→Ze4,typeLookup→Ze5,cameBackBy→Ze6,typeOf→Ze7,isInstance→Ze8,Within→Ze9,GenState→ZeA,Model→ZeB,valueAt→ZeE,standAt→ZeF,IsPart→ZeN,strValues→ZeO,updateSeq→ZeP
open PySem.Heap renaming get?_push_of_some→Zi,get?_update_other→Zy,lt_size→Z0,get?_push_size→Z1,get?_update_self→ZaA,get?_none_of_le→Zcf,SameBut→ZcG,size_push→ZcI,get?_update_ne→Zdm,get?_push_at→Zd7,ExtBut→Zeq,MadeExcOf→Zes
open Nat renaming le_refl→Zr,ne_of_lt→Z6,lt_of_lt_of_le→ZJ,zero_le→Zaa,le_trans→Zal,le_succ→ZaC,lt_succ_self→ZaV,ne_of_gt→Zbi,add_right_cancel→Zcl,lt_irrefl→Zcu,min_eq_left→Zc2,le_of_lt→ZcF,le_of_eq→ZcJ,lt_succ_of_lt→ZcR,succ_le_succ→ZcX,eq_zero_or_pos→Zd0,le_of_not_lt→ZdM,add_sub_cancel_left→ZdS,lt_of_succ_lt_succ→Zee,le_of_ble_eq_true→Zen,zero_add→ZeI,sub_self→ZeJ
open PySem.Value renaming none→ZK,ref→ZaI,type→Zce,bool→Zc3,int→Zdq,builtin→ZdD,str→Zev
open PySem.F renaming plain_max_loop→ZL,entry_max_loop→Zbb,plainAttrs_list→ZbQ,excBase_ValueError→Zci,slot_dict_setdefault→Zdi,args_tuple_add_2→ZdB,entry_tuple_add→ZdL,slot_tuple_add→ZdZ
open PySem.PyData renaming canLayAll0→ZR,canLay0→ZaG,eqv→ZaM,list→Zch,eqvAll→Zcx,int→ZcA
open Ne renaming symm→ZT
open Option.some renaming inj→Zad,injEq→ZaB
open PyProof.Rows renaming callWith_type1→Zah,seqObj→Zas,callWith_builtin1→Zbg,evalAll_cons→Zb9,IntsAre→Zca,evalAll_nil→Zcv,get?_update_seq→Zc1,subscriptTail_builtinR→ZcK,envOfC→ZcW,AllBare→Zdn,size_push'→Zdz,spliced_more→Zd2,spliced_none→Zd3,subscriptTail→ZdC,listUpdate_at→ZdG
open PySem.Obj renaming mapFields→Zai,mapSeq→Zat,data_mapFields→Za0,isFreed_of_fields→Zb7,cls_mapFields→Zd5
open PySem.Str renaming ofString→Zar
open Int renaming mul_le_mul_of_nonneg_left→Zax,emod_lt_of_pos→Za1,emod_nonneg→ZaS,mul_le_mul_of_nonneg_right→Zbh,le_refl→Zbm,le_trans→Zbx,toNat_natCast→ZbC,le_ediv_iff_mul_le→Zec,mul_comm→ZeK
open PySem.NameKind renaming free→Za7,cell→ZdE
open False renaming elim→Za9
open Array renaming getElem?_eq_some_iff→ZaD,length_toList→Zbs,getElem?_setIfInBounds_ne→ZbJ,getElem?_eq_getElem→Zcr,toArray_toList→Zde,getD_eq_getD_getElem?→Zdp,append_assoc→Zdr,find?_toList→Zdt,mem_iff_getElem→Zem
open PySem.Around renaming under_plainId→ZaE,under→ZeC
open True renaming intro→ZaK
open ForInStep renaming yield→ZaR
open PyProof.Rows.F renaming plain_set_update_loop→Zbt,entry_set_update_loop→Zct
open PySem.Builtin.Builtins renaming bindParams→Zbw
open PySem.Builtin.List renaming listTooLong→ZbI
open PySem.Code renaming quiet_builtin→Zc7,isFrame→ZeD
open PySem.W renaming kas_sort→Zdg,kas_descPart→ZeH,kas_tail3→ZeQ
open List.cons renaming injEq→Zdk
open PySem.Calls renaming Name_function_global→Zds,spliced_cons→Zdw,callWith_builtin→Zea
open PySem.Walks renaming list→Zdy
open Sum renaming inl→Zet,inr→Zeu
open PySem.Paired renaming length→Zey
open PySem.Data renaming cell→ZeM
noncomputable section
set_option Elab.async false
set_option linter.all false
set_option maxRecDepth 100000
abbrev CeT:=PySem.Str->Option PySem.Addr
abbrev QvT:=PySem.Value->PySem.Shared->Prop
abbrev PnT:=List (PySem.Addr×PySem.Obj)
theorem Zf {p:Prop}(h:False):p:=h.elim
namespace L2
open PySem PySem.Spec PyProof.Rows
abbrev Key:=Sum Int Str
def Xg:Key->Ze->Bool
 | .inl k,v=>Value.isInt k v
 | .inr x,v=>Value.isStrOf x v
def keyH (w:ZM):Key->Int
 | .inl k=>hashInt k
 | .inr x=>hashStr w x
theorem Vk:∀{k:Key}{v:Ze},Xg k v=Zd->(∃i t,k=Zet i/\v=Zdq i t)∨(∃x t,k=Zeu x/\v=Zev x t)
 | .inl i,v,h=>by
  obtain⟨t,e⟩:=Value.isInt_shape (k:=i) (v:=v) h
  exact .inl ⟨i,t,rfl,e⟩
 | .inr x,v,h=>by
  obtain⟨t,e⟩:=Value.isStrOf_shape (x:=x) (v:=v) h
  exact .inr ⟨x,t,rfl,e⟩
theorem Jpx (i:Int)(t:Tok):Xg (.inl i) (.int i t)=Zd:=by simp[Xg,Value.isInt]
theorem Jpy (x:Str)(t:Tok):Xg (.inr x) (.str x t)=Zd:=by simp[Xg,Value.isStrOf]
theorem Jzx (a b:Int):decide ((Zet a:Key)=Zet b)=(a==b):=by
 by_cases e:a=b
 ·subst e;simp
 ·have h:¬(Zet a:Key)=Zet b:=λ q=>e (Sum.inl.inj q)
  rw[decide_eq_false h]
  exact(beq_eq_false_iff_ne.mpr e).symm
theorem Jz0 (a b:Str):decide ((Zeu a:Key)=Zeu b)=decide (a=b):=by
 by_cases e:a=b
 ·subst e;simp
 ·have h:¬(Zeu a:Key)=Zeu b:=λ q=>e (Sum.inr.inj q)
  rw[decide_eq_false h,decide_eq_false e]
theorem Jzy (a:Int)(b:Str):decide ((Zet a:Key)=Zeu b)=Zh:=decide_eq_false (λ q=>nomatch q)
theorem Jzz (a:Str)(b:Int):decide ((Zeu a:Key)=Zet b)=Zh:=decide_eq_false (λ q=>nomatch q)
def QQ (prog:ZA)(w:ZM):PySem.KeyKind prog w Key where
 is:=Xg
 hash:=keyH w
 inj:=λ v a b ha hb=>by
  rcases Vk ha with⟨i,t,rfl,rfl⟩|⟨x,t,rfl,rfl⟩
  ·rcases Vk hb with⟨j,u,rfl,e⟩|⟨y,u,rfl,e⟩
   ·injection e with e1 _;rw[e1]
   ·exact nomatch e
  ·rcases Vk hb with⟨j,u,rfl,e⟩|⟨y,u,rfl,e⟩
   ·exact nomatch e
   ·injection e with e1 _;rw[e1]
 byValue:=λ k v h=>by
  rcases Vk h with⟨i,t,rfl,rfl⟩|⟨x,t,rfl,rfl⟩<;>rfl
 pyHash:=λ hv h=>by
  rcases Vk hv with⟨i,t,rfl,rfl⟩|⟨x,t,rfl,rfl⟩
  ·exact wpAny_pyHash_int h
  ·exact wpAny_pyHash_str h
 eqBool:=λ hu hv h=>by
  rcases Vk hu with⟨i,t,rfl,rfl⟩|⟨x,t,rfl,rfl⟩
  ·rcases Vk hv with⟨j,u,rfl,rfl⟩|⟨y,u,rfl,rfl⟩
   ·rw[Jzx] at h;exact wpAny_eqBool_int h
   ·rw[Jzy] at h;exact SeqAt.EqAt.int_str i t y u _ _ _ _ h
  ·rcases Vk hv with⟨j,u,rfl,rfl⟩|⟨y,u,rfl,rfl⟩
   ·rw[Jzz] at h;exact SeqAt.EqAt.str_int x t j u _ _ _ _ h
   ·rw[Jz0] at h;exact wpAny_eqBool_str h
 «strs» :=λ k x t v h=>by
  rcases Vk h with⟨i,u,rfl,e⟩|⟨y,u,rfl,e⟩
  ·exact nomatch e
  ·injection e with e1 _
   subst e1
   cases v<;>rfl
theorem Jku (prog:ZA)(w:ZM)(i:Int)(t:Tok):(QQ prog w).is (.inl i) (.int i t)=Zd:=Jpx i t
theorem Jkv (prog:ZA)(w:ZM)(x:Str)(t:Tok):(QQ prog w).is (.inr x) (.str x t)=Zd:=Jpy x t
inductive V where
 | non|bl (b:Bool)|int (i:Int)|str (x:Str)|byt (b:Array UInt8)|flt (b:UInt64)|ref (a:Zj)|ty (n:String)
 deriving DecidableEq
def RelV:V->Ze->Prop
 | .non,u=>u=ZK
 | .bl b,u=>u=Zc3 b
 | .int i,u=>∃t,u=Zdq i t
 | .str x,u=>∃t,u=Zev x t
 | .byt b,u=>∃t,u=Value.bytes b t
 | .flt b,u=>∃t,u=Value.float b t
 | .ref a,u=>u=ZaI a
 | .ty n,u=>u=Zce n
abbrev Vals:List V->List Ze->Prop:=Paired RelV
theorem Vals.length {xs:List V}{us:List Ze}(r:Vals xs us):xs.length=us.length:=Zey r
theorem Vals.get:∀{xs:List V}{us:List Ze}{i:Nat}{x:V},Vals xs us->xs[i]?=Za x->∃u,us[i]?=Za u/\RelV x u
 | _,_,_,_,.nil,e=>by simp at e
 | _,_,0,_,.cons r _,e=>by simp at e;subst e;exact⟨_,rfl,r⟩
 | _,_,i+1,x,.cons _ t,e=>by
  obtain⟨u,h1,h2⟩:=Vals.get (i:=i) (x:=x) t (by simpa using e)
  exact⟨u,by simpa using h1,h2⟩
theorem Vals.set {x:V}{u:Ze}(r:RelV x u):∀{xs:List V}{us:List Ze}(i:Nat),Vals xs us->Vals (xs.set i x) (us.set i u)
 | _,_,_,.nil=>.nil
 | _,_,0,.cons _ t=>.cons r t
 | _,_,i+1,.cons q t=>.cons q (Vals.set r i t)
theorem Vals.append:∀{xs ys:List V}{us ws:List Ze},Vals xs us->Vals ys ws->Vals (xs++ys) (us++ws)
 | _,_,_,_,.nil,s=>s
 | _,_,_,_,.cons r t,s=>.cons r (Vals.append t s)
theorem Vals.take:∀{xs:List V}{us:List Ze}(n:Nat),Vals xs us->Vals (xs.take n) (us.take n)
 | _,_,0,_=>.nil
 | _,_,_+1,.nil=>.nil
 | _,_,n+1,.cons r t=>.cons r (Vals.take n t)
theorem Vals.drop:∀{xs:List V}{us:List Ze}(n:Nat),Vals xs us->Vals (xs.drop n) (us.drop n)
 | _,_,0,r=>r
 | _,_,_+1,.nil=>.nil
 | _,_,n+1,.cons _ t=>Vals.drop n t
theorem Vals.none_of:∀{xs:List V}{us:List Ze}{i:Nat},Vals xs us->xs[i]?=Zc->us[i]?=Zc:=λ {xs us i} r e=>by
 have h1:=r.length
 have h2:xs.length<=i:=Zcq.mp e
 exact Zcq.mpr (by omega)
def RelO:Option V->Option Ze->Prop
 | some v,Za u=>RelV v u
 | none,Zc=>True
 | _,_=>False
def KV {κ:Type}:List (κ×V)->List (κ×Ze)->Prop:=Paired λ (p:κ×V)(q:κ×Ze)=>p.1=q.1/\RelV p.2 q.2
def kV:Key->V
 | .inl i=>.int i
 | .inr x=>.str x
inductive HO where
 /-- a list -/
 | lst (xs:List V)
 /-- a tuple (never changes) -/
 | tup (xs:List V)
 /-- a dict whose keys are ints and texts; one whose keys are tuples of ints and texts (the empty one is both) -/
 | dK (kvs:List (Key×V))|dT (kvs:List (List Key×V))
 /-- a set of ints: its members, its size -/
 | set (S:Int->Bool) (n:Nat)
 /-- an instance of the class at C, its dict at dx, its attributes -/
 | ins (C dx:Zj) (fs:List (Str×V))
 /-- the dict of the instance at x -/
 | own (x:Zj)
 /-- the dict of an exception -/
 | xd (fs:List (Str×V))
 /-- a bound method, f of x -/
 | met (f x:Zj)
 /-- a range object lo, lo + 1, .. below hi -/
 | rng (lo hi:Int)
 /-- a thing that is known to the object (the script; a dict while a loop walks it): read, never written while it is so -/
 | frz (o:Obj) (u:HO)
 /-- a code object's table -/
 | tbl (ps:Array Ze)
 /-- any other thing, by what is Zd of its one object (a def of one's own: SetO a S n := HO.ext λ h => ..) -/
 | ext (φ:ZZ->Prop)
abbrev Hp:=Zj->Option HO
def upd (H:Hp)(a:Zj)(o:HO):Hp:=λ b=>if b=a then Za o else H b
theorem Jw {H:Hp}{a:Zj}{o:HO}:upd H a o a=Za o:=by unfold upd;rw[if_pos rfl]
theorem Jl {H:Hp}{a b:Zj}{o:HO}(h:b≠a):upd H a o b=H b:=by unfold upd;rw[if_neg h]
theorem QR {H:Hp}{a b:Zj}{o:HO}(h:H a=Za o)(h':H b=Zc):a≠b:=by
 intro e;subst e;rw[h] at h';cases h'
section
variable (P:ZA)(w:ZM)
def JF (H:Hp)(h:ZZ)(a:Zj):HO->Prop
 | .lst xs=>xs.length<=sizeLine/\∃(its:List Ze) (n:Nat),Vals xs its/\h.get? a=Za { cls:=.type "list",data:=.seq its.toArray n }
 | .tup xs=>xs.length<=sizeLine/\∃its:List Ze,Vals xs its/\IsTup h a its.toArray
 | .dK kvs=>kvs.length<=sizeLine/\(a==Zc4)=Zh/\∃vs,KV kvs vs/\h.DictOf (QQ P w) a vs
 | .dT kvs=>kvs.length<=sizeLine/\(a==Zc4)=Zh/\∃xs:List (List Key×Zj×Ze),
   Paired (λ (p:List Key×V)(q:List Key×Zj×Ze)=>p.1=q.1/\H q.2.1=Za (.tup (p.1.map kV))/\RelV p.2 q.2.2) kvs xs /\
   ∃o es ep,h.get? a=Za o/\o.ExactDict/\o.data=.dict es ep/\es.toList=xs.map (entryOfKey (tupleKind (QQ P w)))/\(xs.map (·.1)).Nodup
 | .set S n=>h.SetOf (intKind P w) a S n
 | .ins C dx fs=>H dx=Za (.own a)/\fs.length<=1000/\dx≠a/\h.get? a=Za (W.instObj C dx) /\
   ∃mA,h.Ns1 dx mA/\(∀f,RelO (fs.lookup f) (mA f))/\Ze9 mA (fs.map (·.1))
 | .own _=>∃o,h.get? a=Za o
 | .xd fs=>∃mA,h.Ns1 a mA/\∀f,RelO (fs.lookup f) (mA f)
 | .rng lo hi=>∃t u v,h.get? a=Za { cls:=.type "range",data:=.fields #[.int lo t,.int hi u,.int 1 v] }
 | .frz o u=>h.get? a=Za o/\JF H h a u
 | .tbl ps=>h.get? a=Za { cls:=.none,data:=.fields ps }
 | .met f x=>h.get? a=Za (W.methodObj (.ref f) (.ref x))
 | .ext φ=>φ h/\(∃o,h.get? a=Za o)/\∀h1 h2:ZZ,φ h1->(∀o,h1.get? a=Za o->h2.get? a=Za o)->φ h2
def HOk (H:Hp)(h:ZZ):Prop:=∀a o,H a=Za o->JF P w H h a o
end
section
variable {P:ZA}{w:ZM}{H H':Hp}{h h':ZZ}{a:Zj}{o:HO}
theorem JF.lt (x:JF P w H h a o):a<h.objs.size:=by
 cases o with
 | lst xs=>obtain⟨_,_,_,_,e⟩:=x;exact Z0 e
 | tup xs=>obtain⟨_,_,_,p⟩:=x;exact p.lt
 | dK kvs=>obtain⟨_,_,_,_,o,_,_,e,_⟩:=x;exact Z0 e
 | dT kvs=>obtain⟨_,_,_,_,o,_,_,e,_⟩:=x;exact Z0 e
 | set S n=>obtain⟨o,_,_,_,e,_⟩:=x;exact Z0 e
 | ins C dx fs=>obtain⟨_,_,_,e,_⟩:=x;exact Z0 e
 | own y=>obtain⟨_,e⟩:=x;exact Z0 e
 | xd fs=>obtain⟨_,⟨_,_,_,e,_⟩,_⟩:=x;exact Z0 e
 | rng lo hi=>obtain⟨_,_,_,e⟩:=x;exact Z0 e
 | frz ob u=>obtain⟨e,_⟩:=x;exact Z0 e
 | tbl ps=>exact Z0 (show h.get? a=Za _ from x)
 | met f y=>exact Z0 (show h.get? a=Za _ from x)
 | ext φ=>obtain⟨_,⟨_,e⟩,_⟩:=x;exact Z0 e
theorem Paired.mapP {α β:Type}{F G:α->β->Prop}:∀{l₁:List α}{l₂:List β},Paired F l₁ l₂->(∀a b,F a b->G a b)->Paired G l₁ l₂
 | _,_,.nil,_=>.nil
 | _,_,.cons r t,f=>.cons (f _ _ r) (Paired.mapP t f)
theorem JF.stay (x:JF P w H h a o)(k:∀b u,(b=a∨H b=Za (.own a))->h.get? b=Za u->h'.get? b=Za u)
  (ho:∀b,H b=Za (.own a)->H' b=Za (.own a))(ht:∀b xs,H b=Za (.tup xs)->H' b=Za (.tup xs)):JF P w H' h' a o:=by
 induction o with
 | lst xs=>obtain⟨z,its,n,r,e⟩:=x;exact⟨z,its,n,r,k _ _ (.inl rfl) e⟩
 | tup xs=>obtain⟨z,its,r,ob,e,c⟩:=x;exact⟨z,its,r,ob,k _ _ (.inl rfl) e,c⟩
 | dK kvs=>obtain⟨z,y,vs,r,ob,es,ep,e,c⟩:=x;exact⟨z,y,vs,r,ob,es,ep,k _ _ (.inl rfl) e,c⟩
 | dT kvs =>
  obtain⟨z,y,xs,r,ob,es,ep,e,c⟩:=x
  exact⟨z,y,xs,Paired.mapP r λ p q z=>⟨z.1,ht _ _ z.2.1,z.2.2⟩,ob,es,ep,k _ _ (.inl rfl) e,c⟩
 | set S n=>obtain⟨ob,es,ep,t,e,c⟩:=x;exact⟨ob,es,ep,t,k _ _ (.inl rfl) e,c⟩
 | ins C dx fs =>
  obtain⟨d,z,ne,e,mA,⟨od,es,ep,e2,c⟩,r⟩:=x
  exact⟨ho _ d,z,ne,k _ _ (.inl rfl) e,mA,⟨od,es,ep,k _ _ (.inr d) e2,c⟩,r⟩
 | own y=>obtain⟨ob,e⟩:=x;exact⟨ob,k _ _ (.inl rfl) e⟩
 | xd fs=>obtain⟨mA,⟨od,es,ep,e,c⟩,r⟩:=x;exact⟨mA,⟨od,es,ep,k _ _ (.inl rfl) e,c⟩,r⟩
 | rng lo hi=>obtain⟨t,u,v,e⟩:=x;exact⟨t,u,v,k _ _ (.inl rfl) e⟩
 | frz ob u ih=>obtain⟨e,q⟩:=x;exact⟨k _ _ (.inl rfl) e,ih q⟩
 | tbl ps =>
  have e:h.get? a=Za { cls:=.none,data:=.fields ps }:=x
  show h'.get? a=Za { cls:=.none,data:=.fields ps }
  exact k a _ (.inl rfl) e
 | met f y =>
  have e:h.get? a=Za (W.methodObj (.ref f) (.ref y)):=x
  show h'.get? a=Za (W.methodObj (.ref f) (.ref y))
  exact k a _ (.inl rfl) e
 | ext φ=>obtain⟨p,⟨o,e⟩,st⟩:=x;exact⟨st _ _ p λ o q=>k _ _ (.inl rfl) q,⟨o,k _ _ (.inl rfl) e⟩,st⟩
theorem HOk.lt (x:HOk P w H h)(e:H a=Za o):a<h.objs.size:=(x a o e).lt
theorem HOk.fresh (x:HOk P w H h)(e:h.objs.size<=a):H a=Zc:=by
 cases q:H a with
 | none=>rfl
 | some u=>exact absurd (ZJ (x.lt q) e) (Zcu _)
theorem HOk.kept (x:HOk P w H h)(k:∀b u,h.get? b=Za u->h'.get? b=Za u):HOk P w H h':=λ a o e =>
 (x a o e).stay (λ b u _ q=>k b u q) (λ _ q=>q) λ _ _ q=>q
theorem HOk.laid (x:HOk P w H h)(k:∀b u,h.get? b=Za u->h'.get? b=Za u)(hp:h.objs.size<=a)(new:JF P w (upd H a o) h' a o):HOk P w (upd H a o) h':=λ b u e=>by
 have hn:=x.fresh hp
 by_cases hb:b=a
 ·subst hb;rw[Jw] at e;cases e;exact new
 ·rw[Jl hb] at e
  exact(x b u e).stay (λ c v _ q=>k c v q) (λ c q=>by rw[Jl (QR q hn)];exact q) λ c xs q=>by rw[Jl (QR q hn)];exact q
end
def Rd (H:Hp)(a:Zj)(u:HO):Prop:=H a=Za u∨∃o,H a=Za (.frz o u)
theorem Rd.of {H:Hp}{a:Zj}{u:HO}(h:H a=Za u):Rd H a u:=.inl h
theorem Rd.ok {P:ZA}{w:ZM}{H:Hp}{h:ZZ}{a:Zj}{u:HO}(r:Rd H a u)(x:HOk P w H h):JF P w H h a u:=by
 rcases r with r|⟨o,r⟩
 ·exact x a u r
 ·obtain⟨_,q⟩:=x a _ r
  exact q
def Mut:Option HO->Prop
 | some (.lst _)=>True
 | some (.dK _)=>True
 | some (.dT _)=>True
 | some (.set _ _)=>True
 | some (.ins _ _ _)=>True
 | some (.ext _)=>True
 | _=>False
section
variable {P:ZA}{w:ZM}{H:Hp}{h h':ZZ}{x e:Zj}{o':HO}
theorem HOk.write (ok:HOk P w H h)(mu:Mut (H x))(he:e=x∨H e=Za (.own x))(k:∀b u,b≠e->h.get? b=Za u->h'.get? b=Za u)(heo:∃u,h'.get? e=Za u)
  (new:JF P w (upd H x o') h' x o'):HOk P w (upd H x o') h':=λ b u q=>by
 have nown:∀c y,H c=Za (.own y)->c≠x:=λ c y r z=>by subst z;rw[r] at mu;exact mu
 have ntup:∀c xs,H c=Za (.tup xs)->c≠x:=λ c xs r z=>by subst z;rw[r] at mu;exact mu
 by_cases hb:b=x
 ·subst hb;rw[Jw] at q;cases q;exact new
 ·rw[Jl hb] at q
  by_cases hbe:b=e
  ·have q':H b=Za (.own x):=by
    rcases he with z|z
    ·exact absurd (hbe.trans z) hb
    ·rw[hbe];exact z
   rw[q] at q';cases q'
   obtain⟨v,hv⟩:=heo
   exact⟨v,by rw[hbe];exact hv⟩
  ·refine(ok b u q).stay (λ c v hc r=>k c v ?_ r) (λ c r=>by rw[Jl (nown c b r)];exact r) λ c xs r=>by rw[Jl (ntup c xs r)];exact r
   rcases hc with rfl|hc
   ·exact hbe
   ·rintro rfl
    rcases he with z|z
    ·exact nown c b hc z
    ·rw[hc] at z;cases z;exact hb rfl
end
structure Un (fs ex:List Zj)(H H':Hp)(h h':ZZ):Prop where
 keep:∀b o,h.get? b=Za o->H b=Zc->b∉fs->b∉ex->h'.get? b=Za o
 slot:∀b o,h.get? b=Za o->H b=Zc->b∈fs->b∉ex->∃sl,h'.get? b=Za { o with slots:=sl }
 free:∀b o,h.get? b=Za o->H b=Zc->b∉ex->H' b=Zc
 there:∀b o,h.get? b=Za o->b∉ex->∃o',h'.get? b=Za o'
 tups:∀b xs,H b=Za (.tup xs)->H' b=Za (.tup xs)
 frzs:∀b o u,H b=Za (.frz o u)->H' b=Za (.frz o u)
 tbls:∀b ps,H b=Za (.tbl ps)->∃more,H' b=Za (.tbl (ps++more))
section
variable {fs fs' ex ex':List Zj}{H H1 H2:Hp}{h h1 h2 h':ZZ}{a x e:Zj}{o:HO}
theorem Un.any (u:Un fs ex H H1 h h1){b:Zj}{ob:Obj}(q:h.get? b=Za ob)(n:H b=Zc)(hx:b∉ex):∃sl,h1.get? b=Za { ob with slots:=sl }:=by
 by_cases hb:b∈fs
 ·exact u.slot b ob q n hb hx
 ·exact⟨ob.slots,u.keep b ob q n hb hx⟩
theorem Un.trans (a:Un fs ex H H1 h h1)(b:Un fs ex H1 H2 h1 h2):Un fs ex H H2 h h2 where
 keep:=λ c ob q n hc hx=>b.keep c ob (a.keep c ob q n hc hx) (a.free c ob q n hx) hc hx
 slot:=λ c ob q n hc hx=>by
  obtain⟨sl,e1⟩:=a.slot c ob q n hc hx
  obtain⟨sl',e2⟩:=b.slot c _ e1 (a.free c ob q n hx) hc hx
  exact⟨sl',e2⟩
 free:=λ c ob q n hx=>by
  obtain⟨o',e1⟩:=a.there c ob q hx
  exact b.free c o' e1 (a.free c ob q n hx) hx
 there:=λ c ob q hx=>by
  obtain⟨o',e1⟩:=a.there c ob q hx
  exact b.there c o' e1 hx
 tups:=λ c xs q=>b.tups c xs (a.tups c xs q)
 frzs:=λ c ob xs q=>b.frzs c ob xs (a.frzs c ob xs q)
 tbls:=λ c ps q=>by
  obtain⟨m1,e1⟩:=a.tbls c ps q
  obtain⟨m2,e2⟩:=b.tbls c _ e1
  exact⟨m1++m2,by rw[e2,Zdr]⟩
theorem Un.kept (k:∀b u,h.get? b=Za u->h'.get? b=Za u):Un fs ex H H h h' :=
 ⟨λ b ob q _ _ _=>k b ob q,λ b ob q _ _ _=>⟨ob.slots,k b ob q⟩,λ _ _ _ n _=>n,λ b ob q _=>⟨ob,k b ob q⟩,λ _ _ q=>q,λ _ _ _ q=>q,λ _ ps q=>⟨#[],by rw[q];simp⟩⟩
theorem Un.refl:Un fs ex H H h h:=Un.kept λ _ _ q=>q
theorem Un.laid (k:∀b u,h.get? b=Za u->h'.get? b=Za u)(hp:h.objs.size<=a)(hn:H a=Zc):Un fs ex H (upd H a o) h h' where
 keep:=λ b u q _ _ _=>k b u q
 slot:=λ b u q _ _ _=>⟨u.slots,k b u q⟩
 free:=λ b u q n _=>by rw[Jl (Z6 (ZJ (Z0 q) hp))];exact n
 there:=λ b u q _=>⟨u,k b u q⟩
 tups:=λ b xs q=>by rw[Jl (QR q hn)];exact q
 frzs:=λ b u xs q=>by rw[Jl (QR q hn)];exact q
 tbls:=λ b ps q=>⟨#[],by rw[Jl (QR q hn),q];simp⟩
theorem Un.write (mu:Mut (H x))(he:e=x∨H e=Za (.own x))(k:∀b u,b≠e->h.get? b=Za u->h'.get? b=Za u)(heo:∃u,h'.get? e=Za u):Un fs ex H (upd H x o) h h':=by
 have hx:∀b,H b=Zc->b≠x:=λ b n z=>by subst z;rw[n] at mu;exact mu
 have hb:∀b,H b=Zc->b≠e:=λ b n z=>by
  subst z
  rcases he with r|r
  ·exact hx b n r
  ·rw[n] at r;cases r
 have hm:∀b u,H b=Za u->¬Mut (Za u)->b≠x:=λ b u q nm z=>by subst z;rw[q] at mu;exact nm mu
 refine⟨λ b u q n _ _=>k b u (hb b n) q,λ b u q n _ _=>⟨u.slots,k b u (hb b n) q⟩,λ b u q n _=>by rw[Jl (hx b n)];exact n,λ b u q _=>?_,
  λ b xs q=>by rw[Jl (hm b _ q λ z=>z)];exact q,λ b u xs q=>by rw[Jl (hm b _ q λ z=>z)];exact q,λ b ps q=>⟨#[],by rw[Jl (hm b _ q λ z=>z),q];simp⟩⟩
 by_cases hbe:b=e
 ·subst hbe;exact heo
 ·exact⟨u,k b u hbe q⟩
theorem Un.mono (u:Un fs ex H H1 h h1)(hs:∀b∈fs,b∈fs')(hx:∀b∈ex,b∈ex'):Un fs' ex' H H1 h h1 :=
 ⟨λ b ob q n hb he=>u.keep b ob q n (λ z=>hb (hs b z)) λ z=>he (hx b z),λ _ _ q n _ he=>u.any q n λ z=>he (hx _ z),λ b ob q n he=>u.free b ob q n λ z=>he (hx b z),λ b ob q he=>u.there b ob q λ z=>he (hx b z),u.tups,u.frzs,u.tbls⟩
end
def trk (h:ZZ)(H:Hp):List Zj:=(Z8 h.objs.size).filter λ a=>(H a).isSome
def hidT (h:ZZ)(H:Hp):ZZ:=W.hideAll h (trk h H)
theorem Jpm (h:ZZ)(H:Hp):(hidT h H).objs.size=h.objs.size:=W.hideAll_size _ _
theorem Jsh {h:ZZ}{H:Hp}{b:Zj}{o:Obj}(e:h.get? b=Za o)(n:H b=Zc):(hidT h H).get? b=Za o :=
 W.hideAll_get _ e λ hm=>by
  have q:(H b).isSome=Zd:=(Zak.mp hm).2
  rw[n] at q;simp at q
theorem Jw5 {h:ZZ}{H:Hp}{b:Zj}{o:Obj}(e:(hidT h H).get? b=Za o):h.get? b=Za o/\H b=Zc:=by
 have e':h.get? b=Za o:=W.of_hideAll (trk h H) e
 refine⟨e',?_⟩
 cases q:H b with
 | none=>rfl
 | some x =>
  have hm:b∈trk h H:=Zak.mpr ⟨ZaP.mpr (Z0 e'),by simp[q]⟩
  have z:(hidT h H).get? b=Zc:=W.hideAll_none (trk h H) hm
  rw[z] at e;cases e
structure Mod (K:W.Frag)(mg:Str->Option Ze)(base:ZZ):Prop where
 kin:K.In base
 glob:base.Ns Zm mg
 blt:∃mb,base.Ns Zc5 mb/\∀x:Str,x≠"__name__"->mb x=Zbv x
 nolimit:base.NoLimit
structure Cx where
 prog:ZA
 w:ZM
 K:W.Frag
 mg:Str->Option Ze
 base:ZZ
 A:ZG
 N:List Str
 s₀:Zk
 H₀:Hp
 env:Env
 outer:List Env
 stack:List Env
 ex:List Zj
 fn:Str->Bool
 calm:Bool
 pn:PnT
 xe:QvT
def frs (l:List Env):List Zj:=l.filterMap (·.frame)
abbrev Cx.fs (X:Cx):List Zj:=frs X.outer
def Vis (sc:ZaY)(x:Str):Prop:=sc.names.lookup x=Za .local∨sc.names.lookup x=Za .cell∨sc.names.lookup x=Za .free
def Loc (sc:ZaY)(x:Str):Prop:=sc.names.lookup x=Za .local∨sc.names.lookup x=Za .cell
def Look (env:Env)(h:ZZ)(m:Str->Option Ze)(x:Str)(u:Ze):Prop :=
 (env.kindOf x=Za .local/\m x=Za u)∨((env.kindOf x=Za .cell∨env.kindOf x=Za .free)/\∃c,env.cells.lookup x=Za c/\h.IsCell c (Za u))
structure Cx.Ok (X:Cx):Prop where
 mod:Mod X.K X.mg X.base
 kind:X.env.scope.kind=.function
 glob:X.env.globals=Zm
 blt:X.env.builtins=Zc5
 above:X.s₀.heap.objs.size<=X.env.locals
 inj:∀x y c,X.env.cells.lookup x=Za c->X.env.cells.lookup y=Za c->x=y
 has:∀x,(X.env.kindOf x=Za .cell∨X.env.kindOf x=Za .free)->∃c,X.env.cells.lookup x=Za c
 cab:∀x c,X.fn x=Zd->X.env.cells.lookup x=Za c->X.s₀.heap.objs.size<=c
 hd:X.calm=Zd->X.A.handled=Zc
 frames:X.A.frames=Za X.stack
 stk:X.stack=X.outer∨(X.stack=X.env::X.outer/\X.env.frame=Za X.env.locals)
 exf:∀b∈X.ex,b≠X.env.locals/\∀x c,X.env.cells.lookup x=Za c->c≠b
 bs:∀b o,X.base.get? b=Za o->X.s₀.heap.get? b=Za o/\X.H₀ b=Zc
 bsz:X.base.objs.size<=X.s₀.heap.objs.size
 noex:∀b o,X.base.get? b=Za o->b∉X.ex
 exfs:∀b∈X.ex,b∉X.fs
 funs:X.s₀.heap.FunFrames X.base X.outer
 frf:∀b∈X.fs,X.H₀ b=Zc
structure Inv (X:Cx)(pj:PnT)(σ:List (Option V))(H:Hp)(s:Zk):Prop where
 ok:X.Ok
 os:s.os=X.s₀.os
 bare:Zdn s.gens
 base:Un X.fs X.ex X.H₀ H X.s₀.heap s.heap
 loc:∃m,s.heap.Ns X.env.locals m/\∀(i:Nat)(x:Str)(v:V),X.N[i]?=Za x->σ[i]?=Za (Za v)->Vis X.env.scope x->∃u,RelV v u/\Look X.env s.heap m x u
 cell:∀x c,X.env.cells.lookup x=Za c->∃v,s.heap.IsCell c v
 free:H X.env.locals=Zc
 freeC:∀x c,X.env.cells.lookup x=Za c->H c=Zc
 pin:∀p∈X.pn++pj,s.heap.get? p.1=Za p.2/\H p.1=Zc/\p.1≠X.env.locals/\p.1∉X.fs/\∀v,p.2.data≠.cell v
 hok:HOk X.prog X.w H s.heap
 len:σ.length=X.N.length
section
variable {X:Cx}{pj:PnT}{σ:List (Option V)}{H H':Hp}{s:Zk}{h':ZZ}
theorem Cx.Ok.nofr (ok:X.Ok){b:Zj}{o:Obj}(e:X.base.get? b=Za o):b∉X.fs:=λ hb=>by
 have:=(ok.funs.mem hb).1
 rw[e] at this;cases this
theorem Inv.bs (I:Inv X pj σ H s):∀b o,X.base.get? b=Za o->s.heap.get? b=Za o/\H b=Zc:=λ b o e =>
 ⟨I.base.keep b o (I.ok.bs b o e).1 (I.ok.bs b o e).2 (I.ok.nofr e) (I.ok.noex b o e),I.base.free b o (I.ok.bs b o e).1 (I.ok.bs b o e).2 (I.ok.noex b o e)⟩
theorem Inv.bk (I:Inv X pj σ H s):∀b o,X.base.get? b=Za o->s.heap.get? b=Za o:=λ b o e=>(I.bs b o e).1
theorem Inv.mod (I:Inv X pj σ H s):Mod X.K X.mg X.base:=I.ok.mod
theorem Inv.kIn (I:Inv X pj σ H s):X.K.In s.heap:=I.ok.mod.kin.keeps I.bk
theorem Inv.nolimit (I:Inv X pj σ H s):s.heap.NoLimit:=I.ok.mod.nolimit.keeps I.bk
theorem Inv.fr (I:Inv X pj σ H s):∃m,Fr X.base X.env.locals s.heap m :=
 let ⟨m,hn,_⟩:=I.loc
 ⟨m,hn,I.bk,Zal I.ok.bsz I.ok.above⟩
theorem Inv.lt (I:Inv X pj σ H s):X.env.locals<s.heap.objs.size:=let ⟨_,hn,_⟩:=I.loc;hn.lt
theorem Inv.sz (I:Inv X pj σ H s):X.s₀.heap.objs.size<=s.heap.objs.size:=Zal I.ok.above (ZcF I.lt)
theorem Inv.nofs (I:Inv X pj σ H s){a:Zj}(h:s.heap.objs.size<=a):a∉X.fs:=λ hb=>by
 obtain⟨_,o,ho,_⟩:=I.ok.funs.mem hb
 exact absurd (ZJ (Z0 ho) (Zal I.sz h)) (Zcu _)
theorem Inv.cne (I:Inv X pj σ H s):∀x c,X.env.cells.lookup x=Za c->c≠X.env.locals:=λ x c e z=>by
 obtain⟨v,o,ho,hd⟩:=I.cell x c e
 obtain⟨m,⟨o',es,ep,ho',hd',_⟩,_⟩:=I.loc
 rw[z,ho'] at ho;cases ho;rw[hd'] at hd;cases hd
theorem Inv.funs (I:Inv X pj σ H s):s.heap.FunFrames X.base X.outer:=by
 have all:∀(l:List Env),(∀b∈frs l,b∈X.fs)->X.s₀.heap.FunFrames X.base l->s.heap.FunFrames X.base l:=by
  intro l
  induction l with
  | nil=>intro _ _;trivial
  | cons env r ih =>
   intro hs hl
   obtain⟨hk,⟨L,o,hf,hn,ho,hd⟩,hr⟩:=hl
   have hL:L∈X.fs:=hs L (by unfold frs;rw[Zdl,hf];exact Zs)
   obtain⟨sl,e⟩:=I.base.slot L o ho (I.ok.frf L hL) hL λ z=>I.ok.exfs L z hL
   exact⟨hk,⟨L,_,hf,hn,e,hd⟩,ih (λ b hb=>hs b (by unfold frs;rw[Zdl,hf];exact Zn _ hb)) hr⟩
 exact all X.outer (λ _ hb=>hb) I.ok.funs
theorem Inv.stack (I:Inv X pj σ H s):s.heap.FunFrames X.base X.stack:=by
 rcases I.ok.stk with e|⟨e,hf⟩
 ·rw[e];exact I.funs
 ·rw[e]
  obtain⟨m,hn,_⟩:=I.loc
  refine .cons (by rw[I.ok.kind];decide) hf hn ?_ I.funs
  exact Zcf (Zal I.ok.bsz I.ok.above)
theorem Inv.stkSub (I:Inv X pj σ H s):∀b∈frs X.stack,b∈X.env.locals::X.fs:=λ b hb=>by
 rcases I.ok.stk with e|⟨e,hf⟩
 ·rw[e] at hb;exact Zn _ hb
 ·rw[e] at hb
  unfold frs at hb
  rw[Zdl,hf] at hb
  exact hb
theorem Inv.stkFree (I:Inv X pj σ H s):∀b∈frs X.stack,H b=Zc:=λ b hb=>by
 rcases ZH.mp (I.stkSub b hb) with e|hb
 ·rw[e];exact I.free
 ·obtain⟨_,o,ho,_⟩:=I.ok.funs.mem hb
  exact I.base.free b o ho (I.ok.frf b hb) λ z=>I.ok.exfs b z hb
theorem Inv.step {g':Array ZeA}{t':Nat}{d':Drawn}{ch:List Zj}(I:Inv X pj σ H s)
  (hch:∀b∈ch,(b∈X.ex∨X.s₀.heap.objs.size<=b)/\b≠X.env.locals/\(∀x c,X.env.cells.lookup x=Za c->c≠b)/\∀p∈X.pn++pj,p.1≠b)
  (keep:∀b o,b≠X.env.locals->b∉X.fs->b∉ch->s.heap.get? b=Za o->H b=Zc->h'.get? b=Za o)
  (slot:∀b o,b≠X.env.locals->b∈X.fs->b∉ch->s.heap.get? b=Za o->H b=Zc->∃sl,h'.get? b=Za { o with slots:=sl })(free:∀b o,b∉ch->s.heap.get? b=Za o->H b=Zc->H' b=Zc)
  (there:∀b o,b∉ch->s.heap.get? b=Za o->∃o',h'.get? b=Za o')
  (tups:∀b xs,H b=Za (.tup xs)->H' b=Za (.tup xs))(frzs:∀b o u,H b=Za (.frz o u)->H' b=Za (.frz o u))(tbls:∀b ps,H b=Za (.tbl ps)->∃more,H' b=Za (.tbl (ps++more)))
  (ns:∀m,s.heap.Ns X.env.locals m->h'.Ns X.env.locals m)(hok:HOk X.prog X.w H' h')(hg:Zdn g') :
  Inv X pj σ H' { s with heap:=h',gens:=g',drawn:=d',toks:=t' }:=by
 have neL:∀b o,X.s₀.heap.get? b=Za o->b≠X.env.locals:=λ b o e=>Z6 (ZJ (Z0 e) I.ok.above)
 have neC:∀b o,X.s₀.heap.get? b=Za o->b∉X.ex->b∉ch:=λ b o e hx hb=>by
  rcases(hch b hb).1 with z|z
  ·exact hx z
  ·exact absurd (ZJ (Z0 e) z) (Zcu _)
 have cellK:∀x c,X.env.cells.lookup x=Za c->∀v,s.heap.IsCell c v->h'.IsCell c v:=λ x c e v ⟨o,ho,hd⟩=>by
  have nch:c∉ch:=λ z=>(hch c z).2.2.1 x c e rfl
  by_cases hc:c∈X.fs
  ·obtain⟨sl,q⟩:=slot c o (I.cne x c e) hc nch ho (I.freeC x c e)
   exact⟨_,q,hd⟩
  ·exact⟨o,keep c o (I.cne x c e) hc nch ho (I.freeC x c e),hd⟩
 refine⟨I.ok,I.os,hg,⟨λ b o e n hb hx=>?_,λ b o e n hb hx=>?_,λ b o e n hx=>?_,λ b o e hx=>?_,λ b xs e=>tups b xs (I.base.tups b xs e),λ b o xs e=>frzs b o xs (I.base.frzs b o xs e),λ b ps e=>?_⟩,?_,λ x c e=>?_,?_,λ x c e=>?_,λ p hp=>?_,hok,I.len⟩
 ·exact keep b o (neL b o e) hb (neC b o e hx) (I.base.keep b o e n hb hx) (I.base.free b o e n hx)
 ·obtain⟨sl,e1⟩:=I.base.slot b o e n hb hx
  obtain⟨sl',e2⟩:=slot b _ (neL b o e) hb (neC b o e hx) e1 (I.base.free b o e n hx)
  exact⟨sl',e2⟩
 ·obtain⟨o',e1⟩:=I.base.there b o e hx
  exact free b o' (neC b o e hx) e1 (I.base.free b o e n hx)
 ·obtain⟨o',e1⟩:=I.base.there b o e hx
  exact there b o' (neC b o e hx) e1
 ·obtain⟨m1,e1⟩:=I.base.tbls b ps e
  obtain⟨m2,e2⟩:=tbls b _ e1
  exact⟨m1++m2,by rw[e2,Zdr]⟩
 ·obtain⟨m,hn,hl⟩:=I.loc
  refine⟨m,ns m hn,λ i x v e1 e2 e3=>?_⟩
  obtain⟨u,r,l⟩:=hl i x v e1 e2 e3
  refine⟨u,r,?_⟩
  rcases l with l|⟨k,c,e,z⟩
  ·exact .inl l
  ·exact .inr ⟨k,c,e,cellK x c e _ z⟩
 ·obtain⟨v,z⟩:=I.cell x c e
  exact⟨v,cellK x c e v z⟩
 ·obtain⟨m,⟨o,_,_,ho,_⟩,_⟩:=I.loc
  exact free _ o (λ z=>(hch _ z).2.1 rfl) ho I.free
 ·obtain⟨v,o,ho,hd⟩:=I.cell x c e
  exact free c o (λ z=>(hch c z).2.2.1 x c e rfl) ho (I.freeC x c e)
 ·obtain⟨e,n,ne,nf,d⟩:=I.pin p hp
  have nch:p.1∉ch:=λ z=>(hch p.1 z).2.2.2 p hp rfl
  exact⟨keep p.1 p.2 ne nf nch e n,free p.1 p.2 nch e n,ne,nf,d⟩
theorem Inv.un {t':Nat}(I:Inv X pj σ H s)(u:Un X.fs [] H H' s.heap h')(hok:HOk X.prog X.w H' h'):Inv X pj σ H' { s with heap:=h',toks:=t' }:=by
 obtain⟨m,⟨o,es,ep,ho,r⟩,_⟩:=id I.loc
 obtain⟨sl,hL⟩:=u.any ho I.free (by simp)
 exact I.step (g':=s.gens) (d':=s.drawn) (ch:=[]) (λ _ z=>nomatch z) (λ b o _ hb _ e n=>u.keep b o e n hb (by simp)) (λ b o _ hb _ e n=>u.slot b o e n hb (by simp)) (λ b o _ e n=>u.free b o e n (by simp)) (λ b o _ e=>u.there b o e (by simp)) u.tups u.frzs u.tbls (λ m' hm=>by
  obtain⟨o',es',ep',ho',r'⟩:=hm
  rw[ho] at ho';cases ho'
  exact⟨_,es',ep',hL,r'⟩) hok I.bare
theorem Inv.call {g':Array ZeA}{t':Nat}{d':Drawn}{ch:List Zj}(I:Inv X pj σ H s)(u:Un (frs X.stack) ch H H' s.heap h')(hok:HOk X.prog X.w H' h')(hg:Zdn g')
  (hch:∀b∈ch,(b∈X.ex∨X.s₀.heap.objs.size<=b)/\b≠X.env.locals/\(∀x c,X.env.cells.lookup x=Za c->c≠b)/\∀p∈X.pn++pj,p.1≠b) :
  Inv X pj σ H' { s with heap:=h',gens:=g',drawn:=d',toks:=t' }:=by
 obtain⟨m,⟨o,es,ep,ho,r⟩,_⟩:=id I.loc
 obtain⟨sl,hL⟩:=u.any ho I.free λ z=>(hch _ z).2.1 rfl
 exact I.step (ch:=ch) hch (λ b o hL hb hc e n=>u.keep b o e n (λ z=>(ZH.mp (I.stkSub b z)).elim hL hb) hc) (λ b o _ _ hc e n=>u.any e n hc) (λ b o hc e n=>u.free b o e n hc) (λ b o hc e=>u.there b o e hc) u.tups u.frzs u.tbls (λ m' hm=>by
  obtain⟨o',es',ep',ho',r'⟩:=hm
  rw[ho] at ho';cases ho'
  exact⟨_,es',ep',hL,r'⟩) hok hg
theorem Inv.turned {t':Nat}{it:Zj}(I:Inv X pj σ H s)(k:∀b o,b≠it->s.heap.get? b=Za o->h'.get? b=Za o)(hn:H it=Zc)(hL:it≠X.env.locals)
  (h1:it∈X.ex∨X.s₀.heap.objs.size<=it)(h2:∀x c,X.env.cells.lookup x=Za c->c≠it)(h3:∀p∈X.pn++pj,p.1≠it):Inv X pj σ H { s with heap:=h',toks:=t' }:=by
 have nit:∀b u,H b=Za u->b≠it:=λ b u e z=>by rw[z,hn] at e;cases e
 refine I.step (g':=s.gens) (d':=s.drawn) (ch:=[it]) (λ b hb=>?_) (λ b o _ _ hc e _=>k b o (λ z=>hc (by simp[z])) e) (λ b o _ _ hc e _=>⟨o.slots,k b o (λ z=>hc (by simp[z])) e⟩) (λ _ _ _ _ n=>n)
  (λ b o hc e=>⟨o,k b o (λ z=>hc (by simp[z])) e⟩) (λ _ _ e=>e) (λ _ _ _ e=>e) (λ b ps e=>⟨#[],by rw[e];simp⟩) (λ m hm=>?_) (λ b u e=>?_) I.bare
 ·have e:b=it:=by simpa using hb
  subst e
  exact⟨h1,hL,h2,h3⟩
 ·obtain⟨o,es,ep,ho,r⟩:=hm
  exact⟨o,es,ep,k _ o (ZT hL) ho,r⟩
 ·refine(I.hok b u e).stay (λ c v hc q=>k c v ?_ q) (λ _ q=>q) λ _ _ q=>q
  rcases hc with z|z
  ·rw[z];exact nit b u e
  ·exact nit c _ z
theorem Inv.tok (I:Inv X pj σ H s)(t:Nat):Inv X pj σ H { s with toks:=t }:=I.un (h':=s.heap) (t':=t) Un.refl I.hok
theorem Inv.kept {t':Nat}(I:Inv X pj σ H s)(k:∀b u,s.heap.get? b=Za u->h'.get? b=Za u):Inv X pj σ H { s with heap:=h',toks:=t' }:=I.un (Un.kept k) (I.hok.kept k)
theorem Inv.laid {a:Zj}{o:HO}{t':Nat}(I:Inv X pj σ H s)(k:∀b u,s.heap.get? b=Za u->h'.get? b=Za u)(hp:s.heap.objs.size<=a)(new:JF X.prog X.w (upd H a o) h' a o) :
  Inv X pj σ (upd H a o) { s with heap:=h',toks:=t' }:=I.un (Un.laid k hp (I.hok.fresh hp)) (I.hok.laid k hp new)
theorem Inv.write {x e:Zj}{o:HO}{t':Nat}(I:Inv X pj σ H s)(mu:Mut (H x))(he:e=x∨H e=Za (.own x))(k:∀b u,b≠e->s.heap.get? b=Za u->h'.get? b=Za u)(heo:∃u,h'.get? e=Za u)
  (new:JF X.prog X.w (upd H x o) h' x o):Inv X pj σ (upd H x o) { s with heap:=h',toks:=t' }:=I.un (Un.write mu he k heo) (I.hok.write mu he k heo new)
theorem Inv.weak {σ':List (Option V)}(I:Inv X pj σ H s)(hl:σ'.length=σ.length)(w:∀(i:Nat) v,σ'[i]?=Za (Za v)->σ[i]?=Za (Za v)):Inv X pj σ' H s :=
 ⟨I.ok,I.os,I.bare,I.base,let ⟨m,hn,hl'⟩:=I.loc;⟨m,hn,λ i x v e1 e2 e3=>hl' i x v e1 (w i v e2) e3⟩,I.cell,I.free,I.freeC,I.pin,I.hok,hl.trans I.len⟩
theorem Inv.pins_of {pj':PnT}(I:Inv X pj σ H s)(h:∀p∈pj',s.heap.get? p.1=Za p.2/\H p.1=Zc/\p.1≠X.env.locals/\p.1∉X.fs/\∀v,p.2.data≠.cell v):Inv X pj' σ H s :=
 ⟨I.ok,I.os,I.bare,I.base,I.loc,I.cell,I.free,I.freeC,λ p hp=>(ZW.mp hp).elim (λ z=>I.pin p (Zao _ z)) (h p),I.hok,I.len⟩
theorem Jh9 {N:List Str}(hN:N.Nodup){i j:Nat}{x:Str}(a:N[i]?=Za x)(b:N[j]?=Za x):i=j:=by
 obtain⟨h1,e1⟩:=Zo.mp a
 obtain⟨h2,e2⟩:=Zo.mp b
 exact(ZdI hN).mp (e1.trans e2.symm)
theorem Jqu {M:ZeB}{A:ZG}{E:QvT}{i:Nat}{x:Str}{v:V}{u:Ze}{Q:Unit->Zk->Prop}(I:Inv X pj σ H s)(hN:X.N.Nodup)(hi:X.N[i]?=Za x)(hx:Loc X.env.scope x)(r:RelV v u)
  (h:∀s',Inv X pj (σ.set i (Za v)) H s'->(∃a,ZcG a s.heap s'.heap/\(a=X.env.locals∨X.env.cells.lookup x=Za a))->Q () s')(hf:X.fn x=Zd∨X.env.scope.names.lookup x=Za .local:=by assumption):Zt M A (storeName X.env x u) Q E s:=by
 obtain⟨m,hn,hl⟩:=id I.loc
 have hcls:(X.env.scope.kind==.class||(X.env.scope.kind==.module&&X.env.locals != X.env.globals))=Zh:=by rw[I.ok.kind];rfl
 have hiσ:i<σ.length:=by rw[I.len];exact(Zo.mp hi).1
 have cne:=I.cne
 have tracked:∀{a:Zj}{h':ZZ},(∃o,s.heap.get? a=Za o/\H a=Zc)->ZcG a s.heap h'->HOk X.prog X.w H h':=λ {a h'} ha hs b ob e=>by
  obtain⟨_,_,hfree⟩:=ha
  refine(I.hok b ob e).stay (λ c w' hc q=>(hs.2 c ?_).trans q) (λ _ q=>q) λ _ _ q=>q
  rintro rfl
  rcases hc with rfl|hc
  ·rw[hfree] at e;cases e
  ·rw[hfree] at hc;cases hc
 rcases hx with hk|hk
 ·refine wpAny_storeName_local hk hn (λ h' hn' hs=>?_) hcls
  obtain⟨oL,_,_,hoL,_⟩:=id hn
  refine h _ ⟨I.ok,I.os,I.bare,⟨λ b o e n hb hx=>?_,λ b o e n hb hx=>?_,I.base.free,λ b o e hx=>?_,I.base.tups,I.base.frzs,I.base.tbls⟩,⟨_,hn',λ j y v' e1 e2 e3=>?_⟩,λ y c e=>?_,I.free,I.freeC,λ p hp=>?_,tracked ⟨oL,hoL,I.free⟩ hs,by simpa using I.len⟩ ⟨_,hs,.inl rfl⟩
  ·exact(hs.2 b (Z6 (ZJ (Z0 e) I.ok.above))).trans (I.base.keep b o e n hb hx)
  ·obtain⟨sl,e1⟩:=I.base.slot b o e n hb hx
   exact⟨sl,(hs.2 b (Z6 (ZJ (Z0 e) I.ok.above))).trans e1⟩
  ·obtain⟨o',e1⟩:=I.base.there b o e hx
   exact⟨o',(hs.2 b (Z6 (ZJ (Z0 e) I.ok.above))).trans e1⟩
  ·by_cases hj:j=i
   ·subst hj
    rw[hi] at e1;cases e1
    rw[ZU hiσ] at e2
    cases e2
    exact⟨u,r,.inl ⟨hk,by simp⟩⟩
   ·rw[ZX (ZT hj)] at e2
    obtain⟨u',r',q⟩:=hl j y v' e1 e2 e3
    refine⟨u',r',?_⟩
    rcases q with⟨k,e⟩|⟨k,c,e,z⟩
    ·refine .inl ⟨k,?_⟩
     have:y≠x:=λ e=>hj (Jh9 hN e1 (e▸hi))
     simp[this,e]
    ·exact .inr ⟨k,c,e,z.sameBut hs (cne y c e)⟩
  ·obtain⟨w',z⟩:=I.cell y c e
   exact⟨w',z.sameBut hs (cne y c e)⟩
  ·obtain⟨e,n,ne,nf,d⟩:=I.pin p hp
   exact⟨(hs.2 p.1 ne).trans e,n,ne,nf,d⟩
 ·have hfn:X.fn x=Zd:=by
   rcases hf with z|z
   ·exact z
   ·rw[z] at hk;cases hk
  obtain⟨c,hc⟩:=I.ok.has x (.inl hk)
  obtain⟨w',z⟩:=I.cell x c hc
  refine wpAny_storeName_cell I.ok.kind hk hc z (λ h' hc' hs=>?_)
  obtain⟨oc,hoc,hocd⟩:=id z
  refine h { s with heap:=h' } ⟨I.ok,I.os,I.bare,⟨λ b o e n hb hx=>?_,λ b o e n hb hx=>?_,I.base.free,λ b o e hx=>?_,I.base.tups,I.base.frzs,I.base.tbls⟩,⟨m,hn.sameBut hs (ZT (cne x c hc)),λ j y v' e1 e2 e3=>?_⟩,λ y c' e=>?_,I.free,I.freeC,λ p hp=>?_,tracked ⟨oc,hoc,I.freeC x c hc⟩ hs,by simpa using I.len⟩ ⟨c,hs,.inr hc⟩
  ·exact(hs.2 b (Z6 (ZJ (Z0 e) (I.ok.cab x c hfn hc)))).trans (I.base.keep b o e n hb hx)
  ·obtain⟨sl,e1⟩:=I.base.slot b o e n hb hx
   exact⟨sl,(hs.2 b (Z6 (ZJ (Z0 e) (I.ok.cab x c hfn hc)))).trans e1⟩
  ·obtain⟨o',e1⟩:=I.base.there b o e hx
   exact⟨o',(hs.2 b (Z6 (ZJ (Z0 e) (I.ok.cab x c hfn hc)))).trans e1⟩
  ·by_cases hj:j=i
   ·subst hj
    rw[hi] at e1;cases e1
    rw[ZU hiσ] at e2
    cases e2
    exact⟨u,r,.inr ⟨.inl hk,c,hc,hc'⟩⟩
   ·rw[ZX (ZT hj)] at e2
    obtain⟨u',r',q⟩:=hl j y v' e1 e2 e3
    refine⟨u',r',?_⟩
    rcases q with q|⟨k,c',e,z'⟩
    ·exact .inl q
    ·refine .inr ⟨k,c',e,z'.sameBut hs ?_⟩
     rintro rfl
     exact hj (Jh9 hN e1 (I.ok.inj _ _ _ e hc▸hi))
  ·by_cases hcc:c'=c
   ·subst hcc;exact⟨_,hc'⟩
   ·obtain⟨w2,z2⟩:=I.cell y c' e
    exact⟨w2,z2.sameBut hs hcc⟩
  ·obtain⟨e,n,ne,nf,d⟩:=I.pin p hp
   refine⟨(hs.2 p.1 ?_).trans e,n,ne,nf,d⟩
   intro q
   rw[q,hoc] at e
   have q':oc=p.2:=Zad e
   exact d w' (by rw[<- q'];exact hocd)
theorem Yc {M:ZeB}{A:ZG}{E:QvT}{i:Nat}{x:Str}{v:V}{u:Ze}{Q:Unit->Zk->Prop}(I:Inv X pj σ H s)(hN:X.N.Nodup)(hi:X.N[i]?=Za x)(hx:Loc X.env.scope x)(r:RelV v u)
  (h:∀s',Inv X pj (σ.set i (Za v)) H s'->Q () s')(hf:X.fn x=Zd∨X.env.scope.names.lookup x=Za .local:=by assumption):Zt M A (storeName X.env x u) Q E s :=
 Jqu I hN hi hx r (λ s' I' _=>h s' I') hf
theorem Inv.call' {s':Zk}{ch:List Zj}(I:Inv X pj σ H s)(ho:s'.os=s.os)(u:Un (frs X.stack) ch H H' s.heap s'.heap)(hok:HOk X.prog X.w H' s'.heap)(hg:Zdn s'.gens)
  (hch:∀b∈ch,(b∈X.ex∨X.s₀.heap.objs.size<=b)/\b≠X.env.locals/\(∀x c,X.env.cells.lookup x=Za c->c≠b)/\∀p∈X.pn++pj,p.1≠b):Inv X pj σ H' s':=by
 obtain⟨h',g',d',t',o'⟩:=s'
 have e:o'=s.os:=ho
 subst e
 exact I.call (g':=g') (t':=t') (d':=d') u hok hg hch
end
abbrev XK:=Ze->Option Zj->Hp->Prop
abbrev St:=List (Option V)
abbrev VK:=V->Hp->Prop
abbrev TE:=St->Hp->VK->Prop
abbrev TT:=St->Hp->(Bool->Hp->Prop)->Prop
abbrev TA:=St->Hp->(List V->Hp->Prop)->Prop
structure Ends where
 nx:St->Hp->Prop
 rt:VK
 bk:St->Hp->Prop:=λ _ _=>False
 ct:St->Hp->Prop:=λ _ _=>False
abbrev TS:=Ends->St->Hp->Prop
def EP (X:Cx)(pj:PnT)(σ:St)(Q:VK)(u:Ze)(s':Zk):Prop:=∃v H',Inv X pj σ H' s'/\RelV v u/\Q v H'
def TP (X:Cx)(pj:PnT)(σ:St)(Q:Bool->Hp->Prop)(b:Bool)(s':Zk):Prop:=∃H',Inv X pj σ H' s'/\Q b H'
def SP (X:Cx)(pj:PnT)(D:Ends)(f:Flow)(s':Zk):Prop :=
 match f with
 | .next=>∃σ' H',Inv X pj σ' H' s'/\D.nx σ' H'
 | .brk=>∃σ' H',Inv X pj σ' H' s'/\D.bk σ' H'
 | .cont=>∃σ' H',Inv X pj σ' H' s'/\D.ct σ' H'
 | .ret u=>∃v σ' H',Inv X pj σ' H' s'/\RelV v u/\D.rt v H'
def PE (X:Cx)(e:Expr)(t:TE):Prop :=
 ∀(pj:PnT)(s:Zk)(σ:St)(H:Hp)(Q:VK),Inv X pj σ H s->t σ H Q->Zt (Z3 X.prog X.w) X.A (ZaQ e X.env) (EP X pj σ Q) X.xe s
def PT (X:Cx)(e:Expr)(t:TT):Prop :=
 ∀(pj:PnT)(s:Zk)(σ:St)(H:Hp)(Q:Bool->Hp->Prop),Inv X pj σ H s->t σ H Q->Zt (Z3 X.prog X.w) X.A (Ze3 e X.env (ZaQ e X.env)) (TP X pj σ Q) X.xe s
def PW (X:Cx)(e:Expr)(t:TT):Prop :=
 ∀(whole:Sem Ze)(pj:PnT)(s:Zk)(σ:St)(H:Hp)(Q:Bool->Hp->Prop),Inv X pj σ H s->t σ H Q->Zt (Z3 X.prog X.w) X.A (Ze3 e X.env whole) (TP X pj σ Q) X.xe s
theorem PW.pt {X:Cx}{e:Expr}{t:TT}(h:PW X e t):PT X e t:=h _
def PSs (X:Cx)(st:List Zb2)(t:TS):Prop :=
 ∀(pj:PnT)(s:Zk)(σ:St)(H:Hp)(D:Ends),Inv X pj σ H s->t D σ H->Zt (Z3 X.prog X.w) X.A (execs st X.env) (SP X pj D) X.xe s
theorem thn {α:Type}{t:Sem α}{Q Q':α->Zk->Prop}{M:ZeB}{A:ZG}{E:QvT}{s:Zk}(h:Zt M A t Q E s)(hQ:∀a s,Q a s->Q' a s):Zt M A t Q' E s:=ZP h hQ λ _ _ x=>x
section
variable {X:Cx}
def tVar (i:Nat):TE:=λ σ H Q=>∃v,σ[i]?=Za (Za v)/\Q v H
def tC (v:V):TE:=λ _ H Q=>Q v H
theorem J0n {i:Nat}{x:Str}{pos:Pos}(hN:X.N[i]?=Za x)(hv:Vis X.env.scope x)(hd:(x==("__debug__":Str))=Zh:=by decide)(hcd:(x==("__classdict__":Str))=Zh:=by decide):PE X (.Name x pos) (tVar i):=by
 intro pj s σ H Q I h
 obtain⟨v,e,h⟩:=h
 obtain⟨m,hn,hl⟩:=I.loc
 obtain⟨u,r,l⟩:=hl i x v hN e hv
 have fin:EP X pj σ Q u s:=⟨v,H,I,r,h⟩
 rcases l with⟨hk,hm⟩|⟨hk,c,hc,hcell⟩
 ·exact wpAny_Name (wpAny_loadName_local I.ok.kind hk hn hm fin) hd
 ·rcases hk with hk|hk
  ·exact wpAny_Name (wpAny_loadName_cell I.ok.kind hk hc hcell fin) hd
  ·exact wpAny_Name (wpAny_loadName_free I.ok.kind hk hc hcell fin hcd) hd
theorem J0k {i j pos}:PE X (.Constant (.int i) j pos) (tC (.int i)):=λ _ _ _ H _ I h=>wpAny_Constant_int ⟨.int i,H,I.tok _,⟨_,rfl⟩,h⟩
theorem J2n {b j pos}:PE X (.Constant (.bool b) j pos) (tC (.bl b)):=λ _ _ _ H _ I h=>Constant_bool ⟨.bl b,H,I,rfl,h⟩
theorem J0l {j pos}:PE X (.Constant .none j pos) (tC .non):=λ _ _ _ H _ I h=>Constant_none ⟨.non,H,I,rfl,h⟩
theorem J0m {x j pos}:PE X (.Constant (.str x) j pos) (tC (.str x)):=λ _ _ _ H _ I h=>Calls.Constant_str ⟨.str x,H,I.tok _,⟨_,rfl⟩,h⟩
def Gl (X:Cx)(x:Str):Prop:=X.env.kindOf x=Za .globalImplicit
theorem QP {E:QvT}{pj:PnT}{s:Zk}{σ:St}{H:Hp}{x:Str}{u:Ze}{pos:Pos}{Q:QvT}(I:Inv X pj σ H s)(hg:Gl X x)(hm:X.mg x=Za u)(h:Q u s)
  (hd:(x==("__debug__":Str))=Zh:=by decide):Zt (Z3 X.prog X.w) X.A (ZaQ (.Name x pos) X.env) Q E s :=
 Zds I.ok.kind hg (Calls.loadGlobal_global (by rw[I.ok.glob];exact I.mod.glob.keeps I.bk) hm h) hd
theorem Qf {E:QvT}{pj:PnT}{s:Zk}{σ:St}{H:Hp}{x:Str}{u:Ze}{pos:Pos}{Q:QvT}(I:Inv X pj σ H s)(hg:Gl X x)(hm:X.mg x=Zc)(hv:Zbv x=Za u)(h:Q u s)
  (hn:x≠"__name__":=by decide)(hd:(x==("__debug__":Str))=Zh:=by decide):Zt (Z3 X.prog X.w) X.A (ZaQ (.Name x pos) X.env) Q E s:=by
 obtain⟨mb,h1,h2⟩:=I.mod.blt
 exact Zds I.ok.kind hg (Calls.loadGlobal_builtin (by rw[I.ok.glob];exact I.mod.glob.keeps I.bk) hm (by rw[I.ok.blt];exact h1.keeps I.bk) ((h2 x hn).trans hv) h) hd
theorem Jxb {x:Str}{v:V}{u:Ze}{pos:Pos}(hg:Gl X x)(hm:X.mg x=Za u)(r:RelV v u)(hd:(x==("__debug__":Str))=Zh:=by decide):PE X (.Name x pos) (tC v) :=
 λ _ _ _ H _ I h=>QP I hg hm ⟨v,H,I,r,h⟩ hd
variable {a b:Expr}{ta tb:TE}{pos:Pos}
variable {tA tB':TT}{rest:List Expr}
end
def SqL (K:W.Frag)(H:Hp)(a:Zj)(xs:List V):Prop :=
 Rd H a (.lst xs) ∨
  ∃(o:Obj) (its:Array Ze) (n:Nat),K.lookup a=Za o/\o.cls=.type "list"/\o.dict=Zc/\o.data=.seq its n/\its.size<=sizeLine/\Vals xs its.toList
def SqT (K:W.Frag)(H:Hp)(a:Zj)(xs:List V):Prop :=
 Rd H a (.tup xs) ∨
  ∃(o:Obj) (its:Array Ze) (n:Nat),K.lookup a=Za o/\o.cls=.type "tuple"/\o.data=.seq its n/\its.size<=sizeLine/\Vals xs its.toList
def absV:Ze->Option V
 | .none=>Za .non
 | .bool b=>Za (.bl b)
 | .int i _=>Za (.int i)
 | .str x _=>Za (.str x)
 | .bytes b _=>Za (.byt b)
 | .float b _=>Za (.flt b)
 | .ref a=>Za (.ref a)
 | .type n=>Za (.ty n)
 | _=>Zc
theorem RelV.abs {x:V}{u:Ze}(r:RelV x u):absV u=Za x:=by
 cases x with
 | non=>cases r;rfl
 | bl _=>cases r;rfl
 | int _=>obtain⟨t,rfl⟩:=r;rfl
 | str _=>obtain⟨t,rfl⟩:=r;rfl
 | byt _=>obtain⟨t,rfl⟩:=r;rfl
 | flt _=>obtain⟨t,rfl⟩:=r;rfl
 | ref _=>cases r;rfl
 | ty _=>cases r;rfl
theorem RelV.inj {x y:V}{u:Ze}(r:RelV x u)(q:RelV y u):x=y:=Zad (r.abs.symm.trans q.abs)
theorem Vals.inj:∀{xs ys:List V}{us:List Ze},Vals xs us->Vals ys us->xs=ys
 | _,_,_,.nil,.nil=>rfl
 | _,_,_,.cons r t,.cons r' t'=>by rw[r.inj r',Vals.inj t t']
section
variable {X:Cx}{pj:PnT}{σ:St}{H:Hp}{s:Zk}{a:Zj}{xs ys:List V}
theorem SqL.of {K:W.Frag}(h:H a=Za (.lst xs)):SqL K H a xs:=.inl (.inl h)
theorem SqT.of {K:W.Frag}(h:H a=Za (.tup xs)):SqT K H a xs:=.inl (.inl h)
theorem Inv.list (I:Inv X pj σ H s)(h:SqL X.K H a xs):∃its:List Ze,Vals xs its/\PlainL s.heap a its.toArray/\xs.length<=sizeLine:=by
 rcases h with h|⟨o,its,n,hk,hc,hd,hs,hz,r⟩
 ·obtain⟨z,its,n,r,e⟩:=h.ok I.hok
  exact⟨its,r,⟨_,n,e,rfl,rfl,rfl⟩,z⟩
 ·refine⟨its.toList,r,⟨o,n,I.kIn a o hk,hc,hd,by simpa using hs⟩,?_⟩
  have e:=r.length
  simp only[Zbs] at e
  omega
theorem Inv.tuple (I:Inv X pj σ H s)(h:SqT X.K H a xs):∃its:List Ze,Vals xs its/\IsTup s.heap a its.toArray/\xs.length<=sizeLine:=by
 rcases h with h|⟨o,its,n,hk,hc,hs,hz,r⟩
 ·obtain⟨z,its,r,p⟩:=h.ok I.hok
  exact⟨its,r,p,z⟩
 ·refine⟨its.toList,r,⟨o,I.kIn a o hk,hc,n,by simpa using hs⟩,?_⟩
  have e:=r.length
  simp only[Zbs] at e
  omega
theorem Inv.list_inj (I:Inv X pj σ H s)(h:SqL X.K H a xs)(h':SqL X.K H a ys):xs=ys:=by
 obtain⟨its,r,⟨o,n,e,_,_,d⟩,_⟩:=I.list h
 obtain⟨its',r',⟨o',n',e',_,_,d'⟩,_⟩:=I.list h'
 rw[e] at e';cases e'
 rw[d] at d'
 injection d' with d1 _
 have:its=its':=by simpa using congrArg Array.toList d1
 subst this
 exact r.inj r'
theorem Inv.tuple_inj (I:Inv X pj σ H s)(h:SqT X.K H a xs)(h':SqT X.K H a ys):xs=ys:=by
 obtain⟨its,r,⟨o,e,_,n,d⟩,_⟩:=I.tuple h
 obtain⟨its',r',⟨o',e',_,n',d'⟩,_⟩:=I.tuple h'
 rw[e] at e';cases e'
 rw[d] at d'
 injection d' with d1 _
 have:its=its':=by simpa using congrArg Array.toList d1
 subst this
 exact r.inj r'
end
abbrev Cx.wish (X:Cx)(E:QvT):Cx:={ X with xe:=E }
abbrev Cx.nox (X:Cx):Cx:=X.wish λ _ _=>False
theorem Cx.Ok.wish {X:Cx}(ok:X.Ok)(E:QvT):(X.wish E).Ok :=
 ⟨ok.mod,ok.kind,ok.glob,ok.blt,ok.above,ok.inj,ok.has,ok.cab,ok.hd,ok.frames,ok.stk,ok.exf,ok.bs,ok.bsz,ok.noex,ok.exfs,ok.funs,ok.frf⟩
theorem Cx.Ok.unwish {X:Cx}{E:QvT}(ok:(X.wish E).Ok):X.Ok :=
 ⟨ok.mod,ok.kind,ok.glob,ok.blt,ok.above,ok.inj,ok.has,ok.cab,ok.hd,ok.frames,ok.stk,ok.exf,ok.bs,ok.bsz,ok.noex,ok.exfs,ok.funs,ok.frf⟩
section
variable {X:Cx}{pj:PnT}{σ:St}{H:Hp}{s:Zk}{E:QvT}
theorem Inv.wish (I:Inv X pj σ H s)(E:QvT):Inv (X.wish E) pj σ H s:=⟨I.ok.wish E,I.os,I.bare,I.base,I.loc,I.cell,I.free,I.freeC,I.pin,I.hok,I.len⟩
theorem Inv.unwish (I:Inv (X.wish E) pj σ H s):Inv X pj σ H s:=⟨I.ok.unwish,I.os,I.bare,I.base,I.loc,I.cell,I.free,I.freeC,I.pin,I.hok,I.len⟩
theorem SP.unwish {D:Ends}{f:Flow}{s':Zk}(h:SP (X.wish E) pj D f s'):SP X pj D f s':=by
 cases f with
 | next=>obtain⟨σ',H',I,q⟩:=h;exact⟨σ',H',I.unwish,q⟩
 | brk=>obtain⟨σ',H',I,q⟩:=h;exact⟨σ',H',I.unwish,q⟩
 | cont=>obtain⟨σ',H',I,q⟩:=h;exact⟨σ',H',I.unwish,q⟩
 | ret u=>obtain⟨v,σ',H',I,r,q⟩:=h;exact⟨v,σ',H',I.unwish,r,q⟩
theorem PE.nox {e:Expr}{t:TE}(h:PE X.nox e t):PE X e t:=λ pj s σ H Q I hw =>
 ZP (h pj s σ H Q (I.wish _) hw) (λ _ _ ⟨v,H',I',r,q⟩=>⟨v,H',I'.unwish,r,q⟩) λ _ _ z=>Za9 z
theorem PT.nox {e:Expr}{t:TT}(h:PT X.nox e t):PT X e t:=λ pj s σ H Q I hw =>
 ZP (h pj s σ H Q (I.wish _) hw) (λ _ _ ⟨H',I',q⟩=>⟨H',I'.unwish,q⟩) λ _ _ z=>Za9 z
theorem PSs.nox {st:List Zb2}{t:TS}(h:PSs X.nox st t):PSs X st t:=λ pj s σ H D I hw =>
 ZP (h pj s σ H D (I.wish _) hw) (λ _ _ q=>q.unwish) λ _ _ z=>Za9 z
end
section
variable {X:Cx}{st:Zb2}{rest:List Zb2}{t u:TS}{e:Expr}{te:TE}{pos:Pos}
theorem Inv.quiet {pj:PnT}{σ:St}{H:Hp}{s:Zk}(I:Inv X pj σ H s):interactive X.env=Zh:=by simp[interactive,I.ok.kind]
end
section
variable {X:Cx}{pos:Pos}
end
structure It where
 go:Nat->Hp->Prop
 yld:Nat->Hp->V->Hp->Prop
 stop:Nat->Hp->Prop
def FpOk (X:Cx)(pj:PnT)(H:Hp)(b:Zj):Prop :=
 H b=Zc/\b≠X.env.locals/\b∉X.fs/\(b∈X.ex∨X.s₀.heap.objs.size<=b)/\(∀x c,X.env.cells.lookup x=Za c->c≠b)/\∀p∈X.pn++pj,p.1≠b
theorem Inv.fpOk {X:Cx}{pj:PnT}{σ:St}{H H':Hp}{s:Zk}{b:Zj}(I:Inv X pj σ H s)(hb:s.heap.objs.size<=b)(hn:H' b=Zc):FpOk X pj H' b:=by
 refine⟨hn,Zbi (ZJ I.lt hb),I.nofs hb,.inr (Zal I.sz hb),λ x c e z=>?_,λ p hp z=>?_⟩
 ·obtain⟨v,q⟩:=I.cell x c e
  exact absurd (ZJ q.lt (by rw[z];exact hb)) (Zcu _)
 ·exact absurd (ZJ (Z0 (I.pin p hp).1) (by rw[z];exact hb)) (Zcu _)
structure Turn (P:ZA)(w:ZM)(K:W.Frag)(tg:Expr)(J:It)(fp:List Zj)(it:Zj)(tn:Nat->ZZ->Prop):Prop where
 mem:it∈fp
 obj:∀i h,tn i h->∀b∈fp,∃o,h.get? b=Za o/\∀v,o.data≠.cell v
 keep:∀i h h',tn i h->(∀b∈fp,∀o,h.get? b=Za o->h'.get? b=Za o)->tn i h'
 item:∀(X:Cx),X.prog=P->X.w=w->X.K=K->X.calm=Zd->∀(i:Nat)(pj:PnT)(s:Zk)(σ:St)(H:Hp)(E:QvT),Inv X pj σ H s->(∀b∈fp,FpOk X pj H b)->tn i s.heap->J.go i H ->
  Zt (Z3 P w) X.A (Zcs (.ref it)) (λ r s1=>∃u,r=Za u /\
   Zt (Z3 P w) X.A (Zcz tg (.ref it) u) (λ _ s2=>∃x H',Inv X pj σ H' s2/\RelV x u/\J.yld i H x H'/\tn (i+1) s2.heap/\∀b∈fp,H' b=Zc) E s1) E s
 done:∀(X:Cx),X.prog=P->X.w=w->X.K=K->X.calm=Zd->∀(i:Nat)(pj:PnT)(s:Zk)(σ:St)(H:Hp)(E:QvT),Inv X pj σ H s->(∀b∈fp,FpOk X pj H b)->tn i s.heap->J.stop i H ->
  Zt (Z3 P w) X.A (Zcs (.ref it)) (λ r s1=>r=Zc/\Inv X pj σ H s1) E s
 self:∀(A:ZG)(i:Nat)(s:Zk)(Q:QvT)(E:QvT),tn i s.heap->Q (.ref it) s->Zt (Z3 P w) A (Ze4 (.ref it)) Q E s
def PIE (X:Cx)(pj:PnT)(σ:St)(tg:Expr)(R:It->Hp->Prop)(itv:Ze)(s2:Zk):Prop :=
 ∃(it:Zj)(fp:List Zj)(tn:Nat->ZZ->Prop)(J:It)(H':Hp),itv=.ref it/\Inv X pj σ H' s2/\Turn X.prog X.w X.K tg J fp it tn/\tn 0 s2.heap/\(∀b∈fp,FpOk X pj H' b)/\R J H'
theorem Xe {M:ZeB}{A:ZG}{E:QvT}{s:Zk}{tg:Expr}{it:Zj}{u:Ze}{o:Obj}{n:String}{vs:Array Ze}{Q:Unit->Zk->Prop}(ho:s.heap.get? it=Za o)(hc:o.cls=.type n)(hd:o.data=.fields vs)
  (hn:["enumerate","zip","dict_itemiterator","dict_reverseitemiterator","odict_iterator","itertools.zip_longest","itertools.pairwise"].contains n=Zh)(hQ:Q () s):Zt M A (Zcz tg (.ref it) u) Q E s:=by
 unfold Zcz
 cases tg<;>first
  | exact Zv hQ
  | (cases u<;>first
    | exact Zv hQ
    | (refine Zg (wpAny_load ho ?_)
       rw[hc,hd]
       show Zt M A (if (["enumerate","zip","dict_itemiterator","dict_reverseitemiterator","odict_iterator","itertools.zip_longest","itertools.pairwise"].contains n&&vs[0]?==Za (ZbK _))=Zd then _ else _) Q E s
       rw[if_neg (by intro h;rw[hn,Bool.false_and] at h;cases h)]
       exact Zv hQ))
def Itl (K:W.Frag)(a:Zj):It :=
 ⟨λ i H=>∃xs x,SqL K H a xs/\xs[i]?=Za x,λ i H x H'=>H'=H/\∀xs,SqL K H a xs->xs[i]?=Za x,λ i H=>∃xs,SqL K H a xs/\xs.length<=i⟩
def Itt (K:W.Frag)(a:Zj):It :=
 ⟨λ i H=>∃xs x,SqT K H a xs/\xs[i]?=Za x,λ i H x H'=>H'=H/\∀xs,SqT K H a xs->xs[i]?=Za x,λ i H=>∃xs,SqT K H a xs/\xs.length<=i⟩
def Itr (lo:Int)(n:Nat):It:=⟨λ i _=>i<n,λ i H x H'=>H'=H/\x=.int (lo+i),λ i _=>n<=i⟩
theorem Yd {P:ZA}{w:ZM}{K:W.Frag}{tg:Expr}(a it:Zj):Turn P w K tg (Itl K a) [it] it (λ i h=>h.IsListIter it a i) where
 mem:=by simp
 obj:=λ i h st b hb=>by
  have e:b=it:=by simpa using hb
  subst e
  obtain⟨o,e,c,d⟩:=st
  exact⟨o,e,λ v z=>by rw[d] at z;cases z⟩
 keep:=λ i h h' st k=>st.at λ o e=>k it (by simp) o e
 item:=by
  intro X hP hw hK hc i pj s σ H E I hf st hg
  subst hP hw hK
  obtain⟨xs,x,hq,hx⟩:=hg
  obtain⟨its,rv,p,hz⟩:=I.list hq
  obtain⟨u,hu,ru⟩:=rv.get hx
  obtain⟨f0,f1,f2,f3,f4,f5⟩:=hf it (by simp)
  refine ZcH st p.isList (x:=u) (by simpa using hu) λ h' st' sb=>?_
  have I1:Inv X pj σ H { s with heap:=h' }:=I.turned (t':=s.toks) (λ b o hb e=>(sb.2 b hb).trans e) f0 f1 f3 f4 f5
  obtain⟨o,e,c,d⟩:=id st'
  exact⟨u,rfl,Xe (s:={ s with heap:=h' }) e c d (by decide) ⟨x,H,I1,ru,⟨rfl,λ ys hy=>by rw[I.list_inj hy hq];exact hx⟩,st',λ b hb=>(hf b hb).1⟩⟩
 done:=by
  intro X hP hw hK hc i pj s σ H E I hf st hg
  subst hP hw hK
  obtain⟨xs,hq,hx⟩:=hg
  obtain⟨its,rv,p,hz⟩:=I.list hq
  obtain⟨f0,f1,f2,f3,f4,f5⟩:=hf it (by simp)
  have hl:=rv.length
  exact Zei (I.ok.hd hc) st p.isList (by simp;omega) λ h' eb=>⟨rfl,I.turned (t':=s.toks) (λ b o hb e=>eb b o hb e) f0 f1 f3 f4 f5⟩
 self:=λ _ _ _ _ _ st h=>wpAny_pyIter_listiter st h
theorem Jn4 {P:ZA}{w:ZM}{K:W.Frag}{tg:Expr}(a it:Zj):Turn P w K tg (Itt K a) [it] it (λ i h=>h.IsTupleIter it a i) where
 mem:=by simp
 obj:=λ i h st b hb=>by
  have e:b=it:=by simpa using hb
  subst e
  obtain⟨o,e,c,d⟩:=st
  exact⟨o,e,λ v z=>by rw[d] at z;cases z⟩
 keep:=λ i h h' st k=>st.at λ o e=>k it (by simp) o e
 item:=by
  intro X hP hw hK hc i pj s σ H E I hf st hg
  subst hP hw hK
  obtain⟨xs,x,hq,hx⟩:=hg
  obtain⟨its,rv,p,hz⟩:=I.tuple hq
  obtain⟨u,hu,ru⟩:=rv.get hx
  obtain⟨f0,f1,f2,f3,f4,f5⟩:=hf it (by simp)
  refine wpAny_pyNext_tuple_item st (show s.heap.IsTuple a its.toArray from p) (x:=u) (by simpa using hu) λ h' st' sb=>?_
  have I1:Inv X pj σ H { s with heap:=h' }:=I.turned (t':=s.toks) (λ b o hb e=>(sb.2 b hb).trans e) f0 f1 f3 f4 f5
  obtain⟨o,e,c,d⟩:=id st'
  exact⟨u,rfl,Xe (s:={ s with heap:=h' }) e c d (by decide) ⟨x,H,I1,ru,⟨rfl,λ ys hy=>by rw[I.tuple_inj hy hq];exact hx⟩,st',λ b hb=>(hf b hb).1⟩⟩
 done:=by
  intro X hP hw hK hc i pj s σ H E I hf st hg
  subst hP hw hK
  obtain⟨xs,hq,hx⟩:=hg
  obtain⟨its,rv,p,hz⟩:=I.tuple hq
  obtain⟨f0,f1,f2,f3,f4,f5⟩:=hf it (by simp)
  have hl:=rv.length
  exact wpAny_pyNext_tuple_end (I.ok.hd hc) st (show s.heap.IsTuple a its.toArray from p) (by simp;omega) λ h' eb=>⟨rfl,I.turned (t':=s.toks) (λ b o hb e=>eb b o hb e) f0 f1 f3 f4 f5⟩
 self:=λ _ _ _ _ _ st h=>wpAny_pyIter_tupleiter st h
theorem Jn3 {P:ZA}{w:ZM}{K:W.Frag}{tg:Expr}(it:Zj)(lo:Int)(n:Nat):Turn P w K tg (Itr lo n) [it] it (λ i h=>IsRangeIter h it (lo+(i:Nat)*1) ((n:Int)-(i:Nat)) 1) where
 mem:=by simp
 obj:=λ i h st b hb=>by
  have e:b=it:=by simpa using hb
  subst e
  exact⟨_,st,λ v z=>by
   have z':Data.fields _=ZeM v:=z
   cases z'⟩
 keep:=λ i h h' st k=>k it (by simp) _ st
 item:=by
  intro X hP hw hK hc i pj s σ H E I hf st hg
  subst hP hw hK
  obtain⟨f0,f1,f2,f3,f4,f5⟩:=hf it (by simp)
  have W:=Walks.range (prog:=X.prog) (w:=X.w) (I.ok.hd hc) it lo 1 n
  refine W.item i s _ _ hg st λ v h' tk hv st' kk=>?_
  obtain⟨t,rfl⟩:=hv
  have I1:Inv X pj σ H { s with heap:=h',toks:=tk }:=I.turned (λ b o hb e=>kk b o (by simpa using hb) e) f0 f1 f3 f4 f5
  refine⟨_,rfl,Xe (s:={ s with heap:=h',toks:=tk }) (n:="range_iterator") st' rfl rfl (by decide) ⟨.int (lo+i),H,I1,⟨t,?_⟩,⟨rfl,rfl⟩,st',λ b hb=>(hf b hb).1⟩⟩
  rw[Int.mul_one]
 done:=by
  intro X hP hw hK hc i pj s σ H E I hf st hg
  subst hP hw hK
  obtain⟨f0,f1,f2,f3,f4,f5⟩:=hf it (by simp)
  exact wpAny_pyNext_range_end (I.ok.hd hc) st (by have:n<=i:=hg;omega) λ h' eb=>⟨rfl,I.turned (t':=s.toks) (λ b o hb e=>eb b o hb e) f0 f1 f3 f4 f5⟩
 self:=λ _ _ _ _ _ st h=>wpAny_pyIter_rangeiter st h
section
variable {X:Cx}{tg:Expr}
theorem Jtg {pj:PnT}{σ:St}{H:Hp}{s:Zk}{R:It->Hp->Prop}{E:QvT}{lo hi:Int}{t u v:Tok}{tk:Nat}(I:Inv X pj σ H s)(h1: -(2^62)<=lo)(h2:lo<2^62)(h3: -(2^62)<=hi)(h4:hi<2^62)
  (q:R (Itr lo (hi-lo).toNat) H):Zt (Z3 X.prog X.w) X.A (Ze4 (.ref s.heap.objs.size)) (PIE X pj σ tg R) E { s with heap:=s.heap.push { cls:=.type "range",data:=.fields #[.int lo t,.int hi u,.int 1 v] },toks:=tk }:=by
 refine wpAny_pyIter_range (IsRange.new ..) (small_one h1 h2 h3 h4) ?_
 have I1:Inv X pj σ H { s with heap:=s.heap.push { cls:=.type "range",data:=.fields #[.int lo t,.int hi u,.int 1 v] },toks:=tk }:=I.kept λ b o e=>Zi _ e
 refine⟨(s.heap.push { cls:=.type "range",data:=.fields #[.int lo t,.int hi u,.int 1 v] }).objs.size,[(s.heap.push { cls:=.type "range",data:=.fields #[.int lo t,.int hi u,.int 1 v] }).objs.size],_,_,H,rfl,
  I1.kept (t':=tk) λ b o e=>Zi _ e,Jn3 _ lo (hi-lo).toNat,?_,λ b hb=>?_,q⟩
 ·have e1:lo+((0:Nat):Int)*1=lo:=by simp
  have e2:(((hi-lo).toNat:Nat):Int)-((0:Nat):Int)=Builtin.Range.rangeSize lo hi 1:=by rw[rangeSize_one];split<;>omega
  show IsRangeIter _ _ (lo+((0:Nat):Int)*1) ((((hi-lo).toNat:Nat):Int)-((0:Nat):Int)) 1
  rw[e1,e2]
  exact Z1 _ rfl
 ·have e:b=(s.heap.push { cls:=.type "range",data:=.fields #[.int lo t,.int hi u,.int 1 v] }).objs.size:=by simpa using hb
  subst e
  exact I1.fpOk (Zr _) (I1.hok.fresh (Zr _))
def Qy (fp:List Zj)(h:ZZ):PnT:=fp.filterMap λ b=>(h.get? b).map λ o=>(b,o)
theorem XX {fp:List Zj}{h:ZZ}{b:Zj}{o:Obj}(hb:b∈fp)(e:h.get? b=Za o):(b,o)∈Qy fp h:=List.mem_filterMap.mpr ⟨b,hb,by rw[e];rfl⟩
theorem Jqa {fp:List Zj}{h:ZZ}{p:Zj×Obj}(hp:p∈Qy fp h):p.1∈fp/\h.get? p.1=Za p.2:=by
 obtain⟨b,hb,e⟩:=List.mem_filterMap.mp hp
 cases q:h.get? b with
 | none=>rw[q] at e;cases e
 | some o =>
  rw[q] at e
  have e':(b,o)=p:=Zad e
  subst e'
  exact⟨hb,q⟩
theorem Inv.pinned {pj:PnT}{σ:St}{H:Hp}{s:Zk}{fp:List Zj}(I:Inv X pj σ H s)(hf:∀b∈fp,FpOk X pj H b)(ho:∀b∈fp,∃o,s.heap.get? b=Za o/\∀v,o.data≠.cell v):Inv X (pj++Qy fp s.heap) σ H s :=
 I.pins_of λ p hp=>(ZW.mp hp).elim (λ z=>I.pin p (Zx _ z)) λ z=>by
  obtain⟨hb,e⟩:=Jqa z
  obtain⟨f0,f1,f2,_⟩:=hf p.1 hb
  obtain⟨o,e',d⟩:=ho p.1 hb
  rw[e] at e';cases e'
  exact⟨e,f0,f1,f2,d⟩
theorem Inv.unpinned {pj pl:PnT}{σ:St}{H:Hp}{s:Zk}(I:Inv X (pj++pl) σ H s):Inv X pj σ H s:=I.pins_of λ p hp=>I.pin p (Zx _ (Zao _ hp))
end
abbrev R2:=V->V->Hp->VK->Prop
def OpR (X:Cx)(f:Ze->Ze->Sem Ze)(r:R2):Prop :=
 ∀(pj:PnT)(s:Zk)(σ:St)(H:Hp)(x y:V)(v u:Ze)(Q:VK),Inv X pj σ H s->RelV x v->RelV y u->r x y H Q ->
  Zt (Z3 X.prog X.w) X.A (f v u) (EP X pj σ Q) X.xe s
def UnR (X:Cx)(f:Ze->Sem Ze)(r:V->Hp->VK->Prop):Prop :=
 ∀(pj:PnT)(s:Zk)(σ:St)(H:Hp)(x:V)(v:Ze)(Q:VK),Inv X pj σ H s->RelV x v->r x H Q ->
  Zt (Z3 X.prog X.w) X.A (f v) (EP X pj σ Q) X.xe s
def VW (X:Cx)(f:Ze)(r:List V->Hp->VK->Prop):Prop :=
 ∀(pj:PnT)(s:Zk)(σ:St)(H:Hp)(xs:List V)(us:List Ze)(Q:VK),Inv X pj σ H s->Vals xs us->r xs H Q ->
  Zt (Z3 X.prog X.w) X.A (call f us) (EP X pj σ Q) X.xe s
def TruR (X:Cx)(r:V->Hp->(Bool->Hp->Prop)->Prop):Prop :=
 ∀(pj:PnT)(s:Zk)(σ:St)(H:Hp)(x:V)(v:Ze)(Q:Bool->Hp->Prop),Inv X pj σ H s->RelV x v->r x H Q ->
  Zt (Z3 X.prog X.w) X.A (truthy v) (TP X pj σ Q) X.xe s
def rI (C:Int->Int->Prop)(g:Int->Int->V):R2:=λ x y H Q=>∃i j,x=.int i/\y=.int j/\C i j/\Q (g i j) H
def rI0 (g:Int->Int->V):R2:=λ x y H Q=>∃i j,x=.int i/\y=.int j/\Q (g i j) H
def rU (g:Int->V):V->Hp->VK->Prop:=λ x H Q=>∃i,x=.int i/\Q (g i) H
section
variable {X:Cx}{a b c:Expr}{ta tb tc:TE}{pos:Pos}
theorem opI {f:Ze->Ze->Sem Ze}{C:Int->Int->Prop}{g:Int->Int->Int}
  (rule:∀(i j:Int)(t u:Tok)(s:Zk)(Q:QvT)(E:QvT),C i j->Q (.int (g i j) s.toks) { s with toks:=s.toks+1 }->Zt (Z3 X.prog X.w) X.A (f (.int i t) (.int j u)) Q E s) :
  OpR X f (rI C λ i j=>.int (g i j)):=by
 intro pj s σ H x y v u Q I rx ry h
 obtain⟨i,j,rfl,rfl,hc,q⟩:=h
 obtain⟨t,rfl⟩:=rx
 obtain⟨t',rfl⟩:=ry
 exact rule i j t t' s _ _ hc ⟨.int (g i j),H,I.tok _,⟨_,rfl⟩,q⟩
theorem opI0 {f:Ze->Ze->Sem Ze}{g:Int->Int->Int}
  (rule:∀(i j:Int)(t u:Tok)(s:Zk)(Q:QvT)(E:QvT),Q (.int (g i j) s.toks) { s with toks:=s.toks+1 }->Zt (Z3 X.prog X.w) X.A (f (.int i t) (.int j u)) Q E s) :
  OpR X f (rI0 λ i j=>.int (g i j)):=by
 intro pj s σ H x y v u Q I rx ry h
 obtain⟨i,j,rfl,rfl,q⟩:=h
 obtain⟨t,rfl⟩:=rx
 obtain⟨t',rfl⟩:=ry
 exact rule i j t t' s _ _ ⟨.int (g i j),H,I.tok _,⟨_,rfl⟩,q⟩
theorem opB0 {f:Ze->Ze->Sem Ze}{g:Int->Int->Bool}
  (rule:∀(i j:Int)(t u:Tok)(s:Zk)(Q:QvT)(E:QvT),Q (.bool (g i j)) s->Zt (Z3 X.prog X.w) X.A (f (.int i t) (.int j u)) Q E s) :
  OpR X f (rI0 λ i j=>.bl (g i j)):=by
 intro pj s σ H x y v u Q I rx ry h
 obtain⟨i,j,rfl,rfl,q⟩:=h
 obtain⟨t,rfl⟩:=rx
 obtain⟨t',rfl⟩:=ry
 exact rule i j t t' s _ _ ⟨.bl (g i j),H,I,rfl,q⟩
def CPow (i j:Int):Prop:=0<=j/\j<=1000000/\i.natAbs<2^64
def CMul (i j:Int):Prop:=(-(2^64)<i/\i<2^64)∨(-(2^64)<j/\j<2^64)
theorem CMul.ok {i j:Int}(h:CMul i j):IntMulOk i j:=by
 rcases h with⟨h1,h2⟩|⟨h1,h2⟩
 ·exact .of_left (Zd9 h1 h2)
 ·exact .of_right (Zd9 h1 h2)
theorem J0b:OpR X (ZaT .Add) (rI0 λ i j=>.int (i+j)):=opI0 λ _ _ _ _ _ _ _ q=>add_int q
theorem J0g:OpR X (ZaT .Sub) (rI0 λ i j=>.int (i-j)):=opI0 λ _ _ _ _ _ _ _ q=>sub_int q
theorem J0d:OpR X (ZaT .Mod) (rI (λ _ j=>0<j) λ i j=>.int (i%j)):=opI λ i j _ _ _ _ _ hc q=>by
 have h1:(0:Int)<j:=hc
 exact mod_int' (by omega) (by rw[Int.fmod_eq_emod_of_nonneg i (by omega)];exact q)
theorem J0e:OpR X (ZaT .Pow) (rI CPow λ i j=>.int (i^j.toNat)):=opI λ _ _ _ _ _ _ _ hc q=>pow_int_small hc.1 hc.2.1 hc.2.2 q
theorem unI {f:Ze->Sem Ze}{g:Int->Int}
  (rule:∀(i:Int)(t:Tok)(s:Zk)(Q:QvT)(E:QvT),Q (.int (g i) s.toks) { s with toks:=s.toks+1 }->Zt (Z3 X.prog X.w) X.A (f (.int i t)) Q E s) :
  UnR X f (rU λ i=>.int (g i)):=by
 intro pj s σ H x v Q I rx h
 obtain⟨i,rfl,q⟩:=h
 obtain⟨t,rfl⟩:=rx
 exact rule i t s _ _ ⟨.int (g i),H,I.tok _,⟨_,rfl⟩,q⟩
theorem J08:UnR X (unaryOp .USub) (rU λ i=>.int (-i)):=unI λ _ _ _ _ _ q=>neg_int q
end
def scal:V->V->Bool
 | .non,.non=>Zd|.non,.int _=>Zd|.int _,.non=>Zd|.non,.bl _=>Zd|.bl _,.non=>Zd|.non,.str _=>Zd|.str _,.non=>Zd
 | .int _,.int _=>Zd|.bl _,.bl _=>Zd|.str _,.str _=>Zd|.byt _,.byt _=>Zd
 | .int _,.str _=>Zd|.str _,.int _=>Zd|.bl _,.str _=>Zd|.str _,.bl _=>Zd
 | _,_=>Zh
def rEq:R2:=λ x y H Q=>scal x y=Zd/\Q (.bl (decide (x=y))) H
def rNe:R2:=λ x y H Q=>scal x y=Zd/\Q (.bl (!decide (x=y))) H
theorem Joy {i j:Int}:decide (V.int i=V.int j)=(i==j):=by
 rw[ZbT]
 simp
theorem Jul {i j:Bool}:decide (V.bl i=V.bl j)=(i==j):=by
 rw[ZbT]
 simp
theorem Joz {i j:Str}:decide (V.str i=V.str j)=(i==j):=by
 rw[ZbT]
 simp
theorem Jox {i j:Array UInt8}:decide (V.byt i=V.byt j)=(i.toList==j.toList):=by
 rw[ZbT]
 cases i
 cases j
 simp
section
variable {X:Cx}{a b c:Expr}{ta tb tc:TE}{pos:Pos}
theorem J6 {pj:PnT}{σ:St}{H:Hp}{s:Zk}{Q:VK}{k k':Bool}(I:Inv X pj σ H s)(q:Q (.bl k) H)(e:k=k'):EP X pj σ Q (.bool k') s:=by
 subst e
 exact⟨.bl k,H,I,rfl,q⟩
theorem J2h:OpR X (Zan .Eq) rEq:=by
 intro pj s σ H x y v u Q I rx ry h
 obtain⟨hs,q⟩:=h
 cases x with
 | non =>
  cases rx
  cases y with
  | non=>cases ry;exact PySem.EqNone.eq_none_none (J6 I q (by simp))
  | bl j=>cases ry;exact PySem.EqNone.eq_none_bool (J6 I q (by simp))
  | int j=>obtain⟨t',rfl⟩:=ry;exact PySem.EqNone.eq_none_int (J6 I q (by simp))
  | str j=>obtain⟨t',rfl⟩:=ry;exact PySem.EqNone.eq_none_str (J6 I q (by simp))
  | _=>exact absurd (show Zh=Zd from hs) Zq
 | bl i =>
  cases rx
  cases y with
  | non=>cases ry;exact PySem.EqNone.eq_bool_none (J6 I q (by simp))
  | bl j=>cases ry;exact eq_bool (J6 I q Jul)
  | str j=>obtain⟨t',rfl⟩:=ry;exact PySem.EqMixed.eq_bool_str (J6 I q (by simp))
  | _=>exact absurd (show Zh=Zd from hs) Zq
 | int i =>
  obtain⟨t,rfl⟩:=rx
  cases y with
  | non=>cases ry;exact PySem.EqNone.eq_int_none (J6 I q (by simp))
  | int j=>obtain⟨t',rfl⟩:=ry;exact eq_int (J6 I q Joy)
  | str j=>obtain⟨t',rfl⟩:=ry;exact PySem.EqMixed.eq_int_str (J6 I q (by simp))
  | _=>exact absurd (show Zh=Zd from hs) Zq
 | str i =>
  obtain⟨t,rfl⟩:=rx
  cases y with
  | non=>cases ry;exact PySem.EqNone.eq_str_none (J6 I q (by simp))
  | bl j=>cases ry;exact PySem.EqMixed.eq_str_bool (J6 I q (by simp))
  | int j=>obtain⟨t',rfl⟩:=ry;exact PySem.EqMixed.eq_str_int (J6 I q (by simp))
  | str j=>obtain⟨t',rfl⟩:=ry;exact eq_str (J6 I q Joz)
  | _=>exact absurd (show Zh=Zd from hs) Zq
 | byt i =>
  obtain⟨t,rfl⟩:=rx
  cases y with
  | byt j=>obtain⟨t',rfl⟩:=ry;exact W.eq_bytes (J6 I q Jox)
  | _=>exact absurd (show Zh=Zd from hs) Zq
 | _=>cases y<;>exact absurd (show Zh=Zd from hs) Zq
theorem J2m:OpR X (Zan .NotEq) rNe:=by
 intro pj s σ H x y v u Q I rx ry h
 obtain⟨hs,q⟩:=h
 cases x with
 | non =>
  cases rx
  cases y with
  | non=>cases ry;exact PySem.EqNone.ne_none_none (J6 I q (by simp))
  | bl j=>cases ry;exact PySem.EqNone.ne_none_bool (J6 I q (by simp))
  | int j=>obtain⟨t',rfl⟩:=ry;exact PySem.EqNone.ne_none_int (J6 I q (by simp))
  | str j=>obtain⟨t',rfl⟩:=ry;exact PySem.EqNone.ne_none_str (J6 I q (by simp))
  | _=>exact absurd (show Zh=Zd from hs) Zq
 | bl i =>
  cases rx
  cases y with
  | non=>cases ry;exact PySem.EqNone.ne_bool_none (J6 I q (by simp))
  | bl j=>cases ry;exact ne_bool (J6 I q (congrArg not Jul))
  | str j=>obtain⟨t',rfl⟩:=ry;exact PySem.EqMixed.ne_bool_str (J6 I q (by simp))
  | _=>exact absurd (show Zh=Zd from hs) Zq
 | int i =>
  obtain⟨t,rfl⟩:=rx
  cases y with
  | non=>cases ry;exact PySem.EqNone.ne_int_none (J6 I q (by simp))
  | int j=>obtain⟨t',rfl⟩:=ry;exact ne_int (J6 I q (congrArg not Joy))
  | str j=>obtain⟨t',rfl⟩:=ry;exact PySem.EqMixed.ne_int_str (J6 I q (by simp))
  | _=>exact absurd (show Zh=Zd from hs) Zq
 | str i =>
  obtain⟨t,rfl⟩:=rx
  cases y with
  | non=>cases ry;exact PySem.EqNone.ne_str_none (J6 I q (by simp))
  | bl j=>cases ry;exact PySem.EqMixed.ne_str_bool (J6 I q (by simp))
  | int j=>obtain⟨t',rfl⟩:=ry;exact PySem.EqMixed.ne_str_int (J6 I q (by simp))
  | str j=>obtain⟨t',rfl⟩:=ry;exact ne_str (J6 I q (congrArg not Joz))
  | _=>exact absurd (show Zh=Zd from hs) Zq
 | byt i =>
  obtain⟨t,rfl⟩:=rx
  cases y with
  | byt j=>obtain⟨t',rfl⟩:=ry;exact W.ne_bytes (J6 I q (congrArg not Jox))
  | _=>exact absurd (show Zh=Zd from hs) Zq
 | _=>cases y<;>exact absurd (show Zh=Zd from hs) Zq
theorem J2l:OpR X (Zan .Lt) (rI0 λ i j=>.bl (decide (i<j))):=opB0 λ _ _ _ _ _ _ _ q=>lt_int q
theorem J2k:OpR X (Zan .LtE) (rI0 λ i j=>.bl (decide (i<=j))):=opB0 λ _ _ _ _ _ _ _ q=>le_int q
theorem J2j:OpR X (Zan .Gt) (rI0 λ i j=>.bl (decide (j<i))):=opB0 λ _ _ _ _ _ _ _ q=>gt_int q
theorem J2i:OpR X (Zan .GtE) (rI0 λ i j=>.bl (decide (j<=i))):=opB0 λ _ _ _ _ _ _ _ q=>ge_int q
theorem Jqc:OpR X (Zan .Lt) (λ x y H Q=>∃i j,x=.str i/\y=.str j/\Q (.bl (decide (i.cps.toList<j.cps.toList))) H):=by
 intro pj s σ H x y v u Q I rx ry h
 obtain⟨i,j,rfl,rfl,q⟩:=h
 obtain⟨t,rfl⟩:=rx
 obtain⟨t',rfl⟩:=ry
 exact lt_str (J6 I q rfl)
def TruV (K:W.Frag)(x:V)(H:Hp)(k:Bool):Prop :=
 match x with
 | .non=>k=Zh
 | .bl b=>k=b
 | .int i=>k=(i != 0)
 | .str y=>y.length<=sizeLine/\k=((y.length:Int) != 0)
 | .byt y=>y.size<=sizeLine/\k=((y.size:Int) != 0)
 | .ref p=>(∃xs,SqL K H p xs/\k=!xs.isEmpty)∨(∃xs,SqT K H p xs/\k=!xs.isEmpty)∨∃kvs,H p=Za (.dK kvs)/\k=!kvs.isEmpty
 | _=>False
theorem Jni {κ:Type}{kvs:List (κ×V)}{vs:List (κ×Ze)}(r:KV kvs vs):(!vs.isEmpty)=!kvs.isEmpty:=by
 cases r<;>rfl
theorem Jhf {xs:List V}{its:List Ze}(r:Vals xs its):(!its.toArray.isEmpty)=!xs.isEmpty:=by
 cases r<;>simp
theorem XT:(sizeLine:Nat)<2^63:=by rw[ZaU];decide
theorem V4:TruR X (λ x H Q=>∃k,TruV X.K x H k/\Q k H):=by
 intro pj s σ H x v Q I rx h
 obtain⟨k,e,q⟩:=h
 have hl:=XT
 have hs:sizeLine=16777216:=ZaU
 cases x with
 | non =>
  cases rx
  have e':k=Zh:=e
  subst e'
  exact truthy_none ⟨H,I,q⟩
 | bl b =>
  cases rx
  have e':k=b:=e
  subst e'
  exact Zbo ⟨H,I,q⟩
 | int i =>
  obtain⟨t,rfl⟩:=rx
  have e':k=(i != 0):=e
  subst e'
  exact PySem.P.truthy_int ⟨H,I,q⟩
 | str y =>
  obtain⟨t,rfl⟩:=rx
  obtain⟨hy,e'⟩:y.length<=sizeLine/\k=((y.length:Int) != 0):=e
  subst e'
  exact PySem.P.truthy_str (by omega) ⟨H,I.tok _,q⟩
 | byt y =>
  obtain⟨t,rfl⟩:=rx
  obtain⟨hy,e'⟩:y.size<=sizeLine/\k=((y.size:Int) != 0):=e
  subst e'
  exact W.truthy_bytes (by omega) ⟨H,I.tok _,q⟩
 | ref p =>
  cases rx
  have e':(∃xs,SqL X.K H p xs/\k=!xs.isEmpty)∨(∃xs,SqT X.K H p xs/\k=!xs.isEmpty)∨∃kvs,H p=Za (.dK kvs)/\k=!kvs.isEmpty:=e
  rcases e' with⟨xs,hx,e'⟩|⟨xs,hx,e'⟩|⟨kvs,hx,e'⟩
  ·subst e'
   obtain⟨its,r,pl,hz⟩:=I.list hx
   have hlen:=r.length
   exact wpAny_truthy_list pl.isList (by simp only[Z2];omega) ⟨H,I.tok _,by rw[Jhf r];exact q⟩
  ·subst e'
   obtain⟨its,r,pl,hz⟩:=I.tuple hx
   have hlen:=r.length
   exact truthy_tuple pl (by simp only[Z2];omega) ⟨H,I.tok _,by rw[Jhf r];exact q⟩
  ·subst e'
   obtain⟨hz,hS,vs,r,m⟩:kvs.length<=sizeLine/\(p==Zc4)=Zh/\∃vs,KV kvs vs/\s.heap.DictOf (QQ X.prog X.w) p vs:=I.hok p _ hx
   have hlen:kvs.length=vs.length:=Zey r
   exact wpAny_truthy_dict hS m (by omega) ⟨H,I.tok _,by rw[Jni r];exact q⟩
 | _=>exact Zf e
theorem Jns:OpR X (ZaT .Add) (λ x y H Q=>∃i j,x=.str i/\y=.str j/\i.length+j.length<=sizeLine/\Q (.str (i++j)) H):=by
 intro pj s σ H x y v u Q I rx ry h
 obtain⟨i,j,rfl,rfl,hz,q⟩:=h
 obtain⟨t,rfl⟩:=rx
 obtain⟨t',rfl⟩:=ry
 exact add_str (λ t' tk=>⟨.str (i++j),H,I.tok _,⟨_,rfl⟩,q⟩) hz
theorem Qk {x:V}{us:List Ze}(r:Vals [x] us):∃u,us=[u]/\RelV x u:=by
 cases r with
 | cons r1 r2=>cases r2;exact⟨_,rfl,r1⟩
theorem J1c {x y:V}{us:List Ze}(r:Vals [x,y] us):∃u w',us=[u,w']/\RelV x u/\RelV y w':=by
 cases r with
 | cons r1 r2 =>
  cases r2 with
  | cons r3 r4=>cases r4;exact⟨_,_,rfl,r1,r3⟩
theorem Jos (hc:X.calm=Zd):VW X (.builtin "max") (λ xs H Q=>∃i j,xs=[.int i,.int j]/\Q (.int (if j>i then j else i)) H):=by
 intro pj s σ H xs us Q I r h
 obtain⟨i,j,rfl,q⟩:=h
 obtain⟨u,w',rfl,⟨t,rfl⟩,⟨t',rfl⟩⟩:=J1c r
 refine max_two_ints (I.ok.hd hc) λ h' tk k=>⟨_,H,I.kept k,?_,q⟩
 by_cases hj:j>i
 ·rw[if_pos hj,if_pos hj];exact⟨_,rfl⟩
 ·rw[if_neg hj,if_neg hj];exact⟨_,rfl⟩
theorem Jot (hc:X.calm=Zd):VW X (.builtin "min") (λ xs H Q=>∃i j,xs=[.int i,.int j]/\Q (.int (if j<i then j else i)) H):=by
 intro pj s σ H xs us Q I r h
 obtain⟨i,j,rfl,q⟩:=h
 obtain⟨u,w',rfl,⟨t,rfl⟩,⟨t',rfl⟩⟩:=J1c r
 refine min_two_ints (I.ok.hd hc) λ h' tk k=>⟨_,H,I.kept k,?_,q⟩
 by_cases hj:j<i
 ·rw[if_pos hj,if_pos hj];exact⟨_,rfl⟩
 ·rw[if_neg hj,if_neg hj];exact⟨_,rfl⟩
def LenV (K:W.Frag)(x:V)(H:Hp)(n:Nat):Prop :=
 match x with
 | .str y=>y.length<=sizeLine/\n=y.length
 | .byt y=>y.size<=sizeLine/\n=y.size
 | .ref p=>(∃xs,SqL K H p xs/\n=xs.length)∨∃xs,SqT K H p xs/\n=xs.length
 | _=>False
theorem Jff:VW X (.builtin "len") (λ xs H Q=>∃x n,xs=[x]/\LenV X.K x H n/\Q (.int n) H):=by
 intro pj s σ H xs us Q I r h
 obtain⟨x,n,rfl,e,q⟩:=h
 obtain⟨u,rfl,rx⟩:=Qk r
 have hl:=XT
 have hs:sizeLine=16777216:=ZaU
 cases x with
 | str y =>
  obtain⟨t,rfl⟩:=rx
  obtain⟨hy,e'⟩:y.length<=sizeLine/\n=y.length:=e
  subst e'
  exact len_str (by omega) ⟨.int _,H,I.tok _,⟨_,rfl⟩,q⟩
 | byt y =>
  obtain⟨t,rfl⟩:=rx
  obtain⟨hy,e'⟩:y.size<=sizeLine/\n=y.size:=e
  subst e'
  exact W.len_bytes (by omega) ⟨.int _,H,I.tok _,⟨_,rfl⟩,q⟩
 | ref p =>
  cases rx
  have e':(∃xs,SqL X.K H p xs/\n=xs.length)∨∃xs,SqT X.K H p xs/\n=xs.length:=e
  rcases e' with⟨xs,hx,e'⟩|⟨xs,hx,e'⟩
  ·subst e'
   obtain⟨its,r',pl,hz⟩:=I.list hx
   have hlen:=r'.length
   exact Calls.call_len_list pl.isList (by simp only[Z2];omega) ⟨.int xs.length,H,I.tok _,⟨_,by simp only[Z2];rw[hlen]⟩,q⟩
  ·subst e'
   obtain⟨its,r',pl,hz⟩:=I.tuple hx
   have hlen:=r'.length
   exact len_tuple pl (by simp only[Z2];omega) ⟨.int xs.length,H,I.tok _,⟨_,by simp only[Z2];rw[hlen]⟩,q⟩
 | _=>exact Zf e
end
structure ObjM (h:ZZ)(x dx C:Zj)(mA:Str->Option Ze):Prop where
 obj:h.get? x=Za (W.instObj C dx)
 ns:h.Ns1 dx mA
 ne:dx≠x
theorem Jp5 {h:ZZ}{dx:Zj}{mA:Str->Option Ze}(n:h.Ns1 dx mA):∃od,h.get? dx=Za od/\∀name,W.lookIn name od=Za (mA name):=by
 obtain⟨o,es,ep,ho,hd,hk,_,hm⟩:=n
 refine⟨o,ho,λ name=>?_⟩
 have e:=hm name
 unfold nsFind findBy at e
 rw[<- Zdt] at e
 unfold W.lookIn
 rw[hd]
 dsimp only
 split
 ·rename_i y q
  rw[q] at e
  exact congrArg Za e
 ·rename_i q
  rw[q] at e
  have a:es.toList.any (·.refKey)=Zh:=by
   rw[List.any_eq_false]
   intro y hy
   obtain⟨z,t,hkey⟩:=hk y (Array.mem_toList_iff.mp hy)
   simp[DictEntry.refKey,hkey]
  have a':¬es.toList.any (·.refKey)=Zd:=by rw[a];exact Zq
  rw[if_neg a']
  exact congrArg Za e
theorem ObjM.look {h:ZZ}{x dx C:Zj}{mA:Str->Option Ze}(I:ObjM h x dx C mA):∃od,W.InstAt h x (W.instObj C dx) C (Za od)/\∀name,W.lookIn name od=Za (mA name) :=
 let ⟨od,ho,hl⟩:=Jp5 I.ns
 ⟨od,⟨I.obj,rfl,rfl,ho⟩,hl⟩
section
variable {prog:ZA}{w:ZM}{A:ZG}{E:QvT}{s:Zk}{K:W.Frag}{x dx C f:Zj}{mA:Str->Option Ze}{name:Str}{v:Ze}
theorem Jv4 {expr:Bool}{Q:QvT}(X:K.In s.heap)(I:ObjM s.heap x dx C mA)(hg:W.plainGet K C name=Zd)(hh:W.hasDictIn K C=Zd)
  (ha:W.findIn K (.ref C) name=Za Zc)(hv:mA name=Za v)(hv':W.handedIn v=Zd)(h:Q v { s with toks:=s.toks+1 }) :
  Zt (Z3 prog w) A (getAttr (.ref x) name expr) Q E s:=by
 obtain⟨od,J,hl⟩:=I.look
 exact W.get_value X J (W.plainGet_of hg).1 (W.findObj_own hh ha rfl (by rw[hl,hv])) hv' h
theorem Jsd {pl:Sem Bool}{Q:Ze×List Ze->Zk->Prop}(X:K.In s.heap)(I:ObjM s.heap x dx C mA)(hg:W.plainGet K C name=Zd)
  (hf:W.findIn K (.ref C) name=Za (Za (.ref f)))(ht:W.isFn K (.ref f)=Zd)(hv:mA name=Zc)(h:Q (.ref f,[.ref x]) s) :
  Zt (Z3 prog w) A (ZdJ (.ref x) name pl) Q E s:=by
 obtain⟨od,J,hl⟩:=I.look
 exact W.method_fn X J (W.plainGet_of hg).1 (W.plainGet_of hg).2 hf (beq_iff_eq.mp ht) (by show(W.lookIn name od).map (·.isSome)=Za Zh;rw[hl,hv];rfl) h
theorem Jxn {ns:List Str}{Q:Unit->Zk->Prop}(X:K.In s.heap)(I:ObjM s.heap x dx C mA)
  (hs:W.findIn K (.ref C) "__setattr__"=Za (Za (.builtin "object.__setattr__")))(hp:W.plainOver K C=Zd)(ht:W.takerIn K C name=Za Zc)(hh:W.hasDictIn K C=Zd)
  (hw:Ze9 mA ns)(hsz:ns.length<=sizeLine)
  (h:∀h',ObjM h' x dx C (λ y=>if y=name then Za v else mA y)->ZcG dx s.heap h'->Q () { s with heap:=h',toks:=s.toks+2 }) :
  Zt (Z3 prog w) A (setAttr (.ref x) name v) Q E s:=by
 obtain⟨od,J,hl⟩:=I.look
 refine W.set_plain X J hs (W.osa_open (s:={ s with toks:=s.toks+1 }) (r:=Zc) X J hp ht λ b=>?_)
 obtain⟨cd,hc,hd'⟩:=W.any_some hh
 have hx:s.heap.get? x=Za ⟨.ref C,Za dx,.plain,#[]⟩:=I.obj
 refine Zg (Zv (Zg (Zg (Zeo hx (Zg (W.Looks.here (s:={ s with toks:=s.toks+1 }) (W.looks_clsIn X hc) ?_))))))
 rw[hd']
 refine Zv (a:=Za dx) (Zg (Zv (Zg ?_)))
 refine wpAny_nsSet1 (s:={ s with toks:=s.toks+1 }) I.ns λ h' hn2 hs2=>?_
 obtain⟨oD,esD,epD,hoD,hdD,hcD⟩:=hn2.count (PySem.Within.cons name v hw)
 refine Zg (wpAny_lookBehind hoD (by rw[hdD];exact pastItsLine_dict (Zal hcD (by rw[ZB];omega))) ?_)
 exact Zv (h _ ⟨(hs2.2 _ (ZT I.ne)).trans I.obj,hn2,I.ne⟩ hs2)
theorem Js2 {R:ZdA->Zk->Prop}{vs:List Ze}{kw:List (Str×Ze)}(X:K.In s.heap)(hm:W.makesIn K C=Zd)
  (hi:W.findIn K (.ref C) "__init__"=Za (Za (.ref f)))(hf:W.typeIn K (.ref f)=Za (.type "function"))
  (h:ZbZ (Z3 prog w) (A.under (.builtin "type.__call__" ⟨.ref C::vs,kw⟩)) (.call (.ref f) ⟨.ref (s.heap.objs.size+1)::vs,kw⟩) (W.InitBack (s.heap.objs.size+1) R)
   { s with heap:=(s.heap.push W.emptyDict).push (W.instObj C s.heap.objs.size) }) :
  ZbZ (Z3 prog w) A (.call (.ref C) ⟨vs,kw⟩) R s:=by
 obtain⟨hh,g,d,t,os⟩:=s
 exact W.make_core (W.makes_of X hm) (W.looks_findIn X hi) (λ self=>W.bind_fn X self hf) (.inl rfl) h
end
def putF (f:Str)(v:V):List (Str×V)->List (Str×V)
 | []=>[(f,v)]
 | (g,x)::r=>if g=f then(g,v)::r else(g,x)::putF f v r
theorem Jgh (f g:Str)(v:V):∀fs:List (Str×V),(putF f v fs).lookup g=if g=f then Za v else fs.lookup g
 | []=>by
  show ZbB g [(f,v)]=_
  by_cases h:g=f
  ·have hb:(g==f)=Zd:=beq_iff_eq.mpr h
   simp only[ZbB,hb,if_pos h]
  ·have hb:(g==f)=Zh:=beq_eq_false_iff_ne.mpr h
   simp only[ZbB,hb,if_neg h]
 | (k,x)::r=>by
  have ih:=Jgh f g v r
  rw[show putF f v ((k,x)::r)=(if k=f then(k,v)::r else(k,x)::putF f v r) from rfl]
  by_cases hk:k=f
  ·rw[if_pos hk]
   by_cases h:g=k
   ·have hb:(g==k)=Zd:=beq_iff_eq.mpr h
    simp only[ZbB,hb,if_pos (h.trans hk)]
   ·have hb:(g==k)=Zh:=beq_eq_false_iff_ne.mpr h
    simp only[ZbB,hb,if_neg (λ e:g=f=>h (e.trans hk.symm))]
  ·rw[if_neg hk]
   by_cases h:g=k
   ·have hb:(g==k)=Zd:=beq_iff_eq.mpr h
    simp only[ZbB,hb,if_neg (λ e:g=f=>hk (h.symm.trans e))]
   ·have hb:(g==k)=Zh:=beq_eq_false_iff_ne.mpr h
    simp only[ZbB,hb]
    exact ih
theorem Jgf (f:Str)(v:V):∀fs:List (Str×V),f∈(putF f v fs).map (·.1)/\∀g,g∈fs.map (·.1)->g∈(putF f v fs).map (·.1)
 | []=>⟨by simp[putF],λ g h=>by simp at h⟩
 | (k,x)::r=>by
  obtain⟨i1,i2⟩:=Jgf f v r
  rw[show putF f v ((k,x)::r)=(if k=f then(k,v)::r else(k,x)::putF f v r) from rfl]
  by_cases hk:k=f
  ·rw[if_pos hk]
   subst hk
   exact⟨by simp,λ g h=>by simpa using h⟩
  ·rw[if_neg hk]
   refine⟨?_,λ g h=>?_⟩
   ·rw[Zu]
    exact Zn _ i1
   ·rw[Zu] at h ⊢
    rcases ZH.mp h with e|e
    ·exact ZH.mpr (.inl e)
    ·exact Zn _ (i2 g e)
theorem Jgg (f:Str)(v:V):∀fs:List (Str×V),(putF f v fs).length<=fs.length+1
 | []=>by simp[putF]
 | (k,x)::r=>by
  have ih:=Jgg f v r
  rw[show putF f v ((k,x)::r)=(if k=f then(k,v)::r else(k,x)::putF f v r) from rfl]
  by_cases hk:k=f
  ·rw[if_pos hk,ZB,ZB];omega
  ·rw[if_neg hk,ZB,ZB];omega
theorem RelO.some_of {v:V}{o:Option Ze}(r:RelO (Za v) o):∃u,o=Za u/\RelV v u:=by
 cases o with
 | none=>exact Zf r
 | some u=>exact⟨u,rfl,r⟩
theorem RelO.none_of {o:Option Ze}(r:RelO Zc o):o=Zc:=by
 cases o with
 | none=>rfl
 | some u=>exact Zf r
theorem Jpj {v:V}{u:Ze}(r:RelV v u):W.handedIn u=Zd:=by
 cases v with
 | non=>cases (show u=ZK from r);rfl
 | bl b=>cases (show u=Zc3 b from r);rfl
 | int i=>obtain⟨t,e⟩:=(show ∃t,u=Zdq i t from r);cases e;rfl
 | str x=>obtain⟨t,e⟩:=(show ∃t,u=Zev x t from r);cases e;rfl
 | byt b=>obtain⟨t,e⟩:=(show ∃t,u=Value.bytes b t from r);cases e;rfl
 | flt b=>obtain⟨t,e⟩:=(show ∃t,u=Value.float b t from r);cases e;rfl
 | ref a=>cases (show u=ZaI a from r);rfl
 | ty n=>cases (show u=Zce n from r);rfl
section
variable {P:ZA}{w:ZM}{H H':Hp}{h h':ZZ}{a C dx:Zj}{fs fs':List (Str×V)}
theorem Jh6 (hok:HOk P w H h)(e:H a=Za (.ins C dx fs)):∃mA,ObjM h a dx C mA/\(∀f,RelO (fs.lookup f) (mA f))/\Ze9 mA (fs.map (·.1))/\fs.length<=1000/\H dx=Za (.own a):=by
 obtain⟨d,z,ne,ob,mA,n,r,q⟩:=(show JF P w H h a (.ins C dx fs) from hok a _ e)
 exact⟨mA,⟨ob,n,ne⟩,r,q,z,d⟩
end
structure Cls (K:W.Frag)(C:Zj):Prop where
 pg:W.plainGet K C Str.empty=Zd
 hd:W.hasDictIn K C=Zd
 po:W.plainOver K C=Zd
 sa:W.findIn K (.ref C) "__setattr__"=Za (Za (.builtin "object.__setattr__"))
theorem Cls.get {K:W.Frag}{C:Zj}(c:Cls K C)(f:Str):W.plainGet K C f=Zd:=c.pg
def Vc (K:W.Frag)(C:Zj)(f:Str):Prop:=W.findIn K (.ref C) f=Za Zc
theorem Vc.taker {K:W.Frag}{C:Zj}{f:Str}(n:Vc K C f):W.takerIn K C f=Za Zc:=by
 unfold W.takerIn
 rw[show W.findIn K (.ref C) f=Za Zc from n]
 rfl
structure Meth (K:W.Frag)(C:Zj)(m:Str)(f:Zj):Prop where
 at_:W.findIn K (.ref C) m=Za (Za (.ref f))
 fn:W.isFn K (.ref f)=Zd
 kp:W.keepIn K (.ref f)=Zd
section
variable {X:Cx}{pj:PnT}{σ:St}{H:Hp}{s:Zk}{a C dx:Zj}{fs:List (Str×V)}{f:Str}{v:V}{A:ZG}{E:QvT}
theorem Jm7 {b:Bool}{Q:QvT}(I:Inv X pj σ H s)(e:H a=Za (.ins C dx fs))(c:Cls X.K C)(n:Vc X.K C f)(l:fs.lookup f=Za v)
  (h:∀u s',Inv X pj σ H s'->RelV v u->Q u s'):Zt (Z3 X.prog X.w) A (getAttr (.ref a) f b) Q E s:=by
 obtain⟨mA,O,r,_,_,_⟩:=Jh6 I.hok e
 obtain⟨u,hu,ru⟩:=RelO.some_of (v:=v) (o:=mA f) (by rw[<- l];exact r f)
 exact Jv4 I.kIn O (c.get f) c.hd n hu (Jpj ru) (h u _ (I.tok _) ru)
theorem Jhe {m:Str}{g:Zj}{pl:Sem Bool}{Q:Ze×List Ze->Zk->Prop}(I:Inv X pj σ H s)(e:H a=Za (.ins C dx fs))(c:Cls X.K C)(k:Meth X.K C m g)(l:fs.lookup m=Zc)
  (h:Q (.ref g,[.ref a]) s):Zt (Z3 X.prog X.w) A (ZdJ (.ref a) m pl) Q E s:=by
 obtain⟨mA,O,r,_,_,_⟩:=Jh6 I.hok e
 have hn:mA m=Zc:=RelO.none_of (by rw[<- l];exact r m)
 exact Jsd I.kIn O (c.get m) k.at_ k.fn hn h
theorem Jn1 {y:V}{u:Ze}{Q:Unit->Zk->Prop}(I:Inv X pj σ H s)(e:H a=Za (.ins C dx fs))(c:Cls X.K C)(n:Vc X.K C f)(hl:fs.length<1000)(ry:RelV y u)
  (h:∀s',Inv X pj σ (upd H a (.ins C dx (putF f y fs))) s'->Q () s'):Zt (Z3 X.prog X.w) A (setAttr (.ref a) f u) Q E s:=by
 obtain⟨mA,O,r,wi,_,ho⟩:=Jh6 I.hok e
 have hz:(fs.map (·.1)).length<=sizeLine:=by rw[Zp,ZaU];omega
 refine Jxn I.kIn O c.sa c.po n.taker c.hd wi hz λ h' O' sb=>h _ ?_
 have hd:∃o,h'.get? dx=Za o:=let ⟨o,_,_,e',_⟩:=O'.ns;⟨o,e'⟩
 refine I.write (x:=a) (e:=dx) (by rw[e];exact ZaK) (.inr ho) (λ b q hb z=>(sb.2 b hb).trans z) hd ?_
 refine⟨by rw[Jl O.ne];exact ho,?_,O.ne,O'.obj,_,O'.ns,λ g=>?_,λ g hg=>?_⟩
 ·have:=Jgg f y fs;omega
 ·show RelO ((putF f y fs).lookup g) (if g=f then Za u else mA g)
  rw[Jgh]
  by_cases q:g=f
  ·rw[if_pos q,if_pos q];exact ry
  ·rw[if_neg q,if_neg q];exact r g
 ·by_cases q:g=f
  ·rw[q];exact(Jgf f y fs).1
  ·refine(Jgf f y fs).2 g (wi g λ z=>hg ?_)
   show(if g=f then Za u else mA g)=Zc
   rw[if_neg q];exact z
theorem Inv.made (I:Inv X pj σ H s):Inv X pj σ (upd (upd H s.heap.objs.size (.own (s.heap.objs.size+1))) (s.heap.objs.size+1) (.ins C s.heap.objs.size []))
  { s with heap:=(s.heap.push W.emptyDict).push (W.instObj C s.heap.objs.size) }:=by
 have e1:(s.heap.push W.emptyDict).get? s.heap.objs.size=Za W.emptyDict:=Z1 s.heap rfl
 have e2:((s.heap.push W.emptyDict).push (W.instObj C s.heap.objs.size)).get? (s.heap.objs.size+1)=Za (W.instObj C s.heap.objs.size):=by
  have:=Z1 (s.heap.push W.emptyDict) (o:=W.instObj C s.heap.objs.size) rfl
  rwa [ZcI] at this
 have e3:(s.heap.push W.emptyDict).Ns s.heap.objs.size (λ _=>Zc):=⟨W.emptyDict,#[],_,e1,rfl,(λ e he=>absurd he (by simp)),λ _=>rfl⟩
 have I1:=I.laid (a:=s.heap.objs.size) (o:=.own (s.heap.objs.size+1)) (h':=s.heap.push W.emptyDict) (t':=s.toks) (λ b u q=>Zi _ q) (Zr _) ⟨_,e1⟩
 refine I1.laid (a:=s.heap.objs.size+1) (o:=.ins C s.heap.objs.size []) (t':=s.toks) (λ b u q=>Zi _ q) (ZcJ (ZcI _ _)) ?_
 have ne:s.heap.objs.size≠s.heap.objs.size+1:=Z6 (ZaV _)
 refine⟨by rw[Jl ne,Jw],Zaa _,ne,e2,λ _=>Zc,(Heap.Ns1.of_empty e3).at λ o q=>Zi _ q,λ _=>ZaK,λ y hy=>absurd rfl hy⟩
theorem Jvm {prog:ZA}{w:ZM}{env:Env}{e:Expr}{f:Str}{pos:Pos}{s:Zk}{Q:QvT}(hb:Zda e f env (ZaQ e env)=ZaQ e env)
  (h:Zt (Z3 prog w) A (ZaQ e env) (λ o s₁=>Zt (Z3 prog w) A (getAttr o f Zd) Q E s₁) E s):Zt (Z3 prog w) A (ZaQ (.Attribute e f pos) env) Q E s :=
 Attribute_any_ h (by rw[arm_eval_Attribute,hb])
end
section
variable {X:Cx}{o e value:Expr}{f:Str}{pos pos' tpos:Pos}{ta tv:TE}
end
section
variable {X:Cx}{pj:PnT}{σ:St}{H:Hp}{s:Zk}{A:ZG}{E:QvT}{Q:QvT}{c:Ze}{b:Bool}
end
structure Room (k:Nat)(A:ZG):Prop where
 hd:A.handled=Zc
 dp:A.depth+3*k+5<recursionLimit
 un:A.units+16*k+200<Zez
theorem Room.mono {j k:Nat}{A:ZG}(r:Room k A)(h:j<=k):Room j A:=⟨r.hd,by have:=r.dp;omega,by have:=r.un;omega⟩
theorem Room.deeper {k:Nat}{A:ZG}(r:Room (k+1) A)(env:Env):Room k (A.deeper env) :=
 ⟨r.hd,by have:=r.dp;show A.depth+1+3*k+5<_;omega,by have:=r.un;show A.units+3+16*k+200<_;omega⟩
theorem Room.in1 {k:Nat}{A:ZG}(r:Room (k+1) A):Room k A.in1 :=
 ⟨r.hd,by have:=r.dp;show A.depth+3*k+5<_;omega,by have:=r.un;show A.units+1+16*k+200<_;omega⟩
theorem Jnq {A:ZG}{C:Zj}{us:List Ze}{kw:List (Str×Ze)}:(A.under (.builtin "type.__call__" ⟨.ref C::us,kw⟩)).depth=A.depth+1:=by
 first|rfl|simp[ZeC,Code.weight,Code.isCreation,Code.isGuard,Code.isCaller,Code.frames,ZeD,guardIds]
theorem Jnr {A:ZG}{C:Zj}{us:List Ze}{kw:List (Str×Ze)}:(A.under (.builtin "type.__call__" ⟨.ref C::us,kw⟩)).units=A.units+1:=by
 first|rfl|simp[ZeC,Code.cUnits,Code.frames,ZeD]
theorem Room.make {k:Nat}{A:ZG}(r:Room (k+1) A)(C:Zj)(us:List Ze)(kw:List (Str×Ze)):Room k (A.under (.builtin "type.__call__" ⟨.ref C::us,kw⟩)) :=
 ⟨r.hd,by have:=r.dp;rw[Jnq];omega,by have:=r.un;rw[Jnr];omega⟩
theorem Room.depth {k:Nat}{A:ZG}(r:Room k A):A.depth<recursionLimit:=by have:=r.dp;omega
theorem Room.units {k:Nat}{A:ZG}(r:Room k A):A.units+64<Zez:=by have:=r.un;omega
section
variable {X:Cx}{e:Expr}{es:List Expr}{te:TE}{t:TA}{pos:Pos}
end
abbrev Sp:=List V->Hp->VK->XK->Prop
abbrev CXT:=List Env->Hp->Zk->XK->QvT
structure Env0 (P:ZA)(w:ZM)(K:W.Frag)(mg:Str->Option Ze)(base:ZZ)(A:ZG)(outer:List Env)(s:Zk)(H:Hp):Prop where
 frames:A.frames=Za outer
 mod:Mod K mg base
 bs:∀b o,base.get? b=Za o->s.heap.get? b=Za o/\H b=Zc
 bsz:base.objs.size<=s.heap.objs.size
 funs:s.heap.FunFrames base outer
 frf:∀b∈frs outer,H b=Zc
 hok:HOk P w H s.heap
 bare:Zdn s.gens
def CE (outer:List Env)(P:ZA)(w:ZM)(H:Hp)(s:Zk)(Q:VK)(u:Ze)(s':Zk):Prop :=
 ∃v H',s'.os=s.os/\Zdn s'.gens/\Un (frs outer) [] H H' s.heap s'.heap/\HOk P w H' s'.heap/\RelV v u/\Q v H'
def CR (CX:CXT)(outer:List Env)(P:ZA)(w:ZM)(H:Hp)(s:Zk)(Q:VK)(E:XK)(r:ZdA)(s':Zk):Prop :=
 match r with
 | .ok (.ret u)=>CE outer P w H s Q u s'
 | .ok _=>False
 | .error e=>CX outer H s E e s'
structure FnOk (P:ZA)(w:ZM)(K:W.Frag)(mg:Str->Option Ze)(base:ZZ)(CX:CXT)(k:Nat)(f:Zj)(fd:Zap)(ps:List Str)(sp:Sp):Prop where
 len:∀vs H Q E,sp vs H Q E->vs.length=ps.length
 run:∀(A:ZG)(outer:List Env)(s:Zk)(H:Hp)(args:Args)(us:List Ze)(vs:List V)(Q:VK)(E:XK),Room k A->Env0 P w K mg base A outer s H->Zc0 s fd args (ps.zip us)->Vals vs us->sp vs H Q E ->
  ZbZ (Z3 P w) A (.call (.ref f) args) (CR CX outer P w H s Q E) s
theorem FnOk.mono {P:ZA}{w:ZM}{K:W.Frag}{mg:Str->Option Ze}{base:ZZ}{CX:CXT}{j k:Nat}{f:Zj}{fd:Zap}{ps:List Str}{sp:Sp}(F:FnOk P w K mg base CX j f fd ps sp)(h:j<=k) :
  FnOk P w K mg base CX k f fd ps sp:=⟨F.len,λ A outer s H args us vs Q E hr=>F.run A outer s H args us vs Q E (hr.mono h)⟩
theorem FnOk.imp {P:ZA}{w:ZM}{K:W.Frag}{mg:Str->Option Ze}{base:ZZ}{CX:CXT}{k:Nat}{f:Zj}{fd:Zap}{ps:List Str}{sp sp':Sp}(F:FnOk P w K mg base CX k f fd ps sp)
  (h:∀vs H Q E,sp' vs H Q E->sp vs H Q E):FnOk P w K mg base CX k f fd ps sp' :=
 ⟨λ vs H Q E q=>F.len vs H Q E (h _ _ _ _ q),λ A outer s H args us vs Q E hr he hb hv hs=>F.run A outer s H args us vs Q E hr he hb hv (h _ _ _ _ hs)⟩
theorem Env0.make {P:ZA}{w:ZM}{K:W.Frag}{mg:Str->Option Ze}{base:ZZ}{A:ZG}{outer:List Env}{s:Zk}{H:Hp}(e:Env0 P w K mg base A outer s H)(C:Zj)(us:List Ze)(kw:List (Str×Ze)) :
  Env0 P w K mg base (A.under (.builtin "type.__call__" ⟨.ref C::us,kw⟩)) outer s H:=⟨by first|exact e.frames|(simpa [ZeC,Code.envs,ZeD,pushEnvs] using e.frames),e.mod,e.bs,e.bsz,e.funs,e.frf,e.hok,e.bare⟩
theorem Env0.in1 {P:ZA}{w:ZM}{K:W.Frag}{mg:Str->Option Ze}{base:ZZ}{A:ZG}{outer:List Env}{s:Zk}{H:Hp}(e:Env0 P w K mg base A outer s H) :
  Env0 P w K mg base A.in1 outer s H:=⟨e.frames,e.mod,e.bs,e.bsz,e.funs,e.frf,e.hok,e.bare⟩
section
variable {X:Cx}{pj:PnT}{σ:St}{H:Hp}{s s':Zk}
theorem Inv.env0 (I:Inv X pj σ H s):Env0 X.prog X.w X.K X.mg X.base X.A X.stack s H :=
 ⟨I.ok.frames,I.ok.mod,I.bs,Zal I.ok.bsz I.sz,I.stack,I.stkFree,I.hok,I.bare⟩
theorem Inv.after {Q:VK}{u:Ze}(I:Inv X pj σ H s)(h:CE X.stack X.prog X.w H s Q u s'):EP X pj σ Q u s':=by
 obtain⟨v,H',os,bare,un,hok,r,q⟩:=h
 obtain⟨hh,g,d,t,os'⟩:=s'
 obtain rfl:os'=s.os:=os
 exact⟨v,H',I.call (h':=hh) (g':=g) (d':=d) (t':=t) (ch:=[]) un hok bare (λ b z=>absurd z (by simp)),r,q⟩
end
def JI (K:W.Frag)(fd:Zap)(ps:List Str)(ds:List Ze):Prop :=
 ∀(s:Zk)(us:List Ze),K.In s.heap->(us++ds).length=ps.length->Zc0 s fd ⟨us,[]⟩ (ps.zip (us++ds))
theorem JI.all {K:W.Frag}{fd:Zap}{ps:List Str}(h:∀us:List Ze,us.length=ps.length->ZdK fd ⟨us,[]⟩=pure (ps.zip us)):JI K fd ps []:=λ s us _ hl=>by
 rw[Za2] at hl ⊢
 exact .of_eq (h us hl)
section
variable {X:Cx}{CX:CXT}{k:Nat}{f C:Zj}{fd:Zap}{ps:List Str}{sp:Sp}{dvs:List V}{ds:List Ze}{E:XK}{x m:Str}{p pos apos:Pos}{e o:Expr}{es:List Expr}{ta:TE}{t:TA}
structure Mk (K:W.Frag)(C f:Zj):Prop where
 makes:W.makesIn K C=Zd
 init:W.findIn K (.ref C) "__init__"=Za (Za (.ref f))
 fn:W.isFn K (.ref f)=Zd
 kp:W.keepIn K (.ref C)=Zd
end
section
variable {X:Cx}{CX:CXT}{k:Nat}{f C:Zj}{fd:Zap}{ps ks:List Str}{sp:Sp}{E:XK}{x m:Str}{p pos apos kpos:Pos}{e o:Expr}{es:List Expr}{kws:List Zdo}{te ta:TE}{t tk:TA}{nm:Option Str}
variable {g:List Ze->List Ze->List Ze}{gV:List V->List V->List V}
end
structure FnScope (N P:List Str)(sc:ZaY):Prop where
 kind:sc.kind=.function
 co:sc.isCoroutine=Zh
 gen:sc.isGenerator=Zh
 nd:N.Nodup
 pre:N.take P.length=P
 par:∀x∈P,sc.names.lookup x=Za .local∨sc.names.lookup x=Za .cell
 nofree:∀y∈sc.names,y.2≠.free
theorem Ji1 {kindOf:Str->Option Zbe}{x:Str}:∀{binds:List (Str×Ze)}{m:Str->Option Ze},(∀v,(x,v)∉binds)->bindL kindOf binds m x=m x
 | [],_,_=>rfl
 | (n,v)::r,m,h=>by
  unfold bindL
  rw[Ji1 λ w hw=>h w (Zn _ hw)]
  split
  ·have:x≠n:=by rintro rfl;exact h v Zs
   simp[this]
  ·rfl
theorem Jiz {kindOf:Str->Option Zbe}{x:Str}:∀{binds:List (Str×Ze)}{m:Str->Option Ze},(∀v,(x,v)∉binds)->bindC kindOf binds m x=m x
 | [],_,_=>rfl
 | (n,v)::r,m,h=>by
  unfold bindC
  rw[Jiz λ w hw=>h w (Zn _ hw)]
  split
  ·rfl
  ·have:x≠n:=by rintro rfl;exact h v Zs
   simp[this]
theorem Ji0 {kindOf:Str->Option Zbe}{x:Str}{v:Ze}:∀{P:List Str}{vs:List Ze}{i:Nat}{m:Str->Option Ze},P.Nodup->P[i]?=Za x->vs[i]?=Za v->kindOf x=Za .local ->
  bindL kindOf (P.zip vs) m x=Za v
 | [],_,_,_,_,h,_,_=>by simp at h
 | _::_,[],_,_,_,_,h,_=>by simp at h
 | p::P,w::vs,0,m,nd,h1,h2,hk=>by
  simp at h1 h2;subst h1;subst h2
  show bindL kindOf ((p,w)::P.zip vs) m p=_
  unfold bindL
  rw[Ji1 λ v hv=>(Zbd.mp nd).1 (Zdh hv).1,if_pos hk]
  simp
 | p::P,w::vs,i+1,m,nd,h1,h2,hk=>by
  show bindL kindOf ((p,w)::P.zip vs) m x=_
  unfold bindL
  exact Ji0 (i:=i) (Zbd.mp nd).2 (by simpa using h1) (by simpa using h2) hk
theorem Jiy {kindOf:Str->Option Zbe}{x:Str}{v:Ze}:∀{P:List Str}{vs:List Ze}{i:Nat}{m:Str->Option Ze},P.Nodup->P[i]?=Za x->vs[i]?=Za v->kindOf x≠Za .local ->
  bindC kindOf (P.zip vs) m x=Za v
 | [],_,_,_,_,h,_,_=>by simp at h
 | _::_,[],_,_,_,_,h,_=>by simp at h
 | p::P,w::vs,0,m,nd,h1,h2,hk=>by
  simp at h1 h2;subst h1;subst h2
  show bindC kindOf ((p,w)::P.zip vs) m p=_
  unfold bindC
  rw[Jiz λ v hv=>(Zbd.mp nd).1 (Zdh hv).1,if_neg hk]
  simp
 | p::P,w::vs,i+1,m,nd,h1,h2,hk=>by
  show bindC kindOf ((p,w)::P.zip vs) m x=_
  unfold bindC
  exact Jiy (i:=i) (Zbd.mp nd).2 (by simpa using h1) (by simpa using h2) hk
def start (N:List Str)(vs:List V):St:=vs.map Za++ZO (N.length-vs.length) Zc
def cxOf (CX:CXT)(P:ZA)(w:ZM)(K:W.Frag)(mg:Str->Option Ze)(base:ZZ)(N:List Str)(qual:Str)(scope:ZaY)(f:Zj)(cd:Ze)(A:ZG)(outer:List Env)(s:Zk)(H:Hp)(E:XK):Cx where
 prog:=P
 w:=w
 K:=K
 mg:=mg
 base:=base
 A:=A.deeper (ZcW qual scope s.heap.objs.size f cd)
 N:=N
 s₀:=s
 H₀:=H
 env:=ZcW qual scope s.heap.objs.size f cd
 outer:=outer
 stack:=ZcW qual scope s.heap.objs.size f cd::outer
 ex:=[]
 calm:=Zd
 fn:=λ _=>Zd
 pn:=[]
 xe:=λ e s'=>Zt (Z3 P w) (A.deeper (ZcW qual scope s.heap.objs.size f cd)) (leaving (ZcW qual scope s.heap.objs.size f cd) e) (λ _ s''=>CX outer H s E e s'') (λ e' s''=>CX outer H s E e' s'') s'
theorem Jlo {sc:ZaY}{n:Nat}{x:Str}(h:sc.names.lookup x=Za .cell):∃c,(cellsFrom n sc.names []).lookup x=Za c:=by
 have q:=W.cellsFrom_some sc.names n [] (.inl h)
 exact Za6.mp q
theorem Jjn {CX:CXT}{P:ZA}{w:ZM}{K:W.Frag}{mg:Str->Option Ze}{base:ZZ}{N ps:List Str}{qual:Str}{scope:ZaY}{f:Zj}{cd:Ze}{A:ZG}{outer:List Env}{s s1:Zk}{H:Hp}{E:XK}{us:List Ze}{vs:List V}
  (S:FnScope N ps scope)(hd:A.handled=Zc)(e0:Env0 P w K mg base A outer s H)(hl:vs.length=ps.length)(r:Vals vs us)
  (x:InCallC s s.heap.objs.size (bindL (ZcW qual scope s.heap.objs.size f cd).kindOf (ps.zip us) λ _=>Zc) (cellsFrom (s.heap.objs.size+1) scope.names []) (bindC (ZcW qual scope s.heap.objs.size f cd).kindOf (ps.zip us) λ _=>Zc) s1) :
  Inv (cxOf CX P w K mg base N qual scope f cd A outer s H E) [] (start N vs) H s1:=by
 have hpl:ps.length<=N.length:=by have:=congrArg List.length S.pre;rw[ZN] at this;omega
 obtain⟨h1,tk,rfl,hk⟩:=x.done
 have noA:∀b:Zj,b∉(cxOf CX P w K mg base N qual scope f cd A outer s H E).ex:=λ b z=>absurd (show b∈([]:List Zj) from z) (by simp)
 refine⟨⟨e0.mod,S.kind,rfl,rfl,Zr _,λ y z c h1 h2=>?_,λ y hy=>?_,λ y c _ h=>?_,λ _=>hd,Around.frames_deeper e0.frames,.inr ⟨rfl,rfl⟩,λ b z=>absurd z (noA b),e0.bs,e0.bsz,λ b _ _=>noA b,λ b z=>absurd z (noA b),e0.funs,e0.frf⟩,
  rfl,e0.bare,Un.kept hk,⟨_,x.toInCall.ns,λ i y v h1 h2 h3=>?_⟩,λ y c h=>⟨_,x.cell y c h⟩,e0.hok.fresh (Zr _),λ y c h=>?_,λ p hp=>absurd (show p∈([]:PnT) from hp) (by simp),e0.hok.kept hk,?_⟩
 ·exact name_of_addr x.apart (Zae h1) (Zae h2)
 ·have hy:scope.names.lookup y=Za .cell∨scope.names.lookup y=Za .free:=hy
  rcases hy with hy|hy
  ·exact Jlo hy
  ·exact absurd rfl (S.nofree _ (Zae hy))
 ·exact ZcF (x.above y c (Zae h))
 ·have hi:i<vs.length:=by
   unfold start at h2
   by_cases hi:i<vs.length
   ·exact hi
   ·rw[Z4 (by simpa using hi)] at h2
    rw[ZbL] at h2
    split at h2<;>cases h2
  have ha:vs[i]?=Za v:=by
   unfold start at h2
   rw[ZC (by simpa using hi),Z7] at h2
   cases e:vs[i]? with
   | none=>rw[e] at h2;cases h2
   | some a=>rw[e] at h2;cases h2;rfl
  obtain⟨u,hu,rv⟩:=r.get ha
  have hp:ps[i]?=Za y:=by
   rw[<- S.pre,List.getElem?_take_of_lt (by omega)];exact h1
  have ndP:ps.Nodup:=by rw[<- S.pre];exact S.nd.sublist (List.take_sublist _ _)
  refine⟨u,rv,?_⟩
  rcases S.par y (Zcg hp) with k|k
  ·exact .inl ⟨k,Ji0 ndP hp hu k⟩
  ·obtain⟨c,e⟩:=Jlo (n:=s.heap.objs.size+1) k
   refine .inr ⟨.inl k,c,e,?_⟩
   have q:=x.cell y c e
   rw[Jiy ndP hp hu (by show scope.names.lookup y≠_;rw[k];decide)] at q
   exact q
 ·exact e0.hok.fresh (ZcF (x.above y c (Zae h)))
 ·unfold start
  show _=N.length
  rw[ZD,Zp,ZbX]
  omega
theorem Jy5 {CX:CXT}{P:ZA}{w:ZM}{K:W.Frag}{mg:Str->Option Ze}{base:ZZ}{k:Nat}{f:Zj}{name qual:Str}{params:ZcB}{body:List Zb2}{scope:ZaY}{dV kV doc pm cdv ct oc:Ze}{an od:Option Zj}
  {osl:Array (Option Ze)}{N ps:List Str}{sp:Sp}(lk:K.lookup f=Za ⟨oc,od,.func (W.fnOf name qual params body scope dV kV doc pm an cdv ct),osl⟩)(hcd:W.codeIn K cdv qual=Zd)(S:FnScope N ps scope)
  (len:∀vs H Q E,sp vs H Q E->vs.length=ps.length)
  (hbody:∀(A:ZG)(outer:List Env)(s:Zk)(H:Hp)(vs:List V)(Q:VK)(E:XK),Room k (A.deeper (ZcW qual scope s.heap.objs.size f cdv))->sp vs H Q E ->
   ∃t,PSs (cxOf CX P w K mg base N qual scope f cdv A outer s H E) body t/\t { nx:=λ _ H'=>Q .non H',rt:=Q } (start N vs) H) :
  FnOk P w K mg base CX (k+1) f (W.fnOf name qual params body scope dV kV doc pm an cdv ct) ps sp:=by
 refine⟨len,λ A outer s H args us vs Q E hr e0 hb r hsp=>?_⟩
 have hl:=len _ _ _ _ hsp
 have KX:K.In s.heap:=e0.mod.kin.keeps λ b o e=>(e0.bs b o e).1
 have lim:s.heap.NoLimit:=e0.mod.nolimit.keeps λ b o e=>(e0.bs b o e).1
 have hkind:∀y∈ps.zip us,scope.names.lookup y.1=Za .local∨(scope.names.lookup y.1=Za .cell/\((cellsFrom (s.heap.objs.size+1) scope.names []).lookup y.1).isSome=Zd):=λ ⟨n,v⟩ hy=>by
  rcases S.par n (Zdh hy).1 with q|q
  ·exact .inl q
  ·exact .inr ⟨q,W.cellsFrom_some _ _ _ (.inl q)⟩
 refine Zej hr.depth (KX _ _ lk) rfl S.co S.gen rfl (W.codeRec_of KX hcd) (hb _ _ _ _ ?_)
 refine Zdu S.kind hkind λ env he s1 x=>?_
 subst he
 refine⟨lim.keeps x.toInCall.keep,codeAny_func ?_⟩
 obtain⟨t,ht,hq⟩:=hbody A outer s H vs Q E (hr.deeper _) hsp
 have I:Inv (cxOf CX P w K mg base N qual scope f cdv A outer s H E) [] (start N vs) H s1:=Jjn S hr.hd e0 hl r x
 refine ZP (ht [] s1 (start N vs) H _ I hq) (λ fl s' hs=>?_) λ e s' hs=>hs
 have fin:∀{σ':St}{H':Hp}{v:V}{u:Ze},Inv (cxOf CX P w K mg base N qual scope f cdv A outer s H E) [] σ' H' s'->RelV v u->Q v H'->CE outer P w H s Q u s' :=
  λ {σ' H' v u} J rv q=>⟨v,H',J.os,J.bare,J.base,J.hok,rv,q⟩
 cases fl with
 | ret u =>
  obtain⟨v,σ',H',J,rv,q⟩:=hs
  exact fin J rv q
 | next =>
  obtain⟨σ',H',J,q⟩:=hs
  exact fin (v:=V.non) (u:=ZK) J rfl q
 | brk =>
  obtain⟨_,_,_,q⟩:=hs
  exact Za9 q
 | cont =>
  obtain⟨_,_,_,q⟩:=hs
  exact Za9 q
section
variable {X:Cx}{x:Str}{p pos:Pos}{e:Expr}{es:List Expr}{t:TA}{id T:String}{r:List V->Hp->VK->Prop}
end
end L2
namespace HT
open PySem PyProof.Rows
section
open PySem.SeqAt
open PySem.AutoSeq1 (wpAny_loadPart')
open PySem.MeetsSeq PySem.MeetsSeq2 PySem.MeetsSeq3
end
section
variable {prog:ZA}{w:ZM}{A:ZG}{E:QvT}{s:Zk}
theorem cat_tup {t b:Zj}{vs ws:List Ze}{Q:QvT}(ht:IsTup s.heap t vs.toArray)(hb:IsTup s.heap b ws.toArray)(hv:vs≠[])
  (h1:ws=[]->Q (.ref t) s)(h2:ws≠[]->Q (.ref s.heap.objs.size) { s with heap:=s.heap.push { cls:=.type "tuple",data:=.seq (vs++ws).toArray } })
  (hsz:vs.length+ws.length<=sizeLine):Zt (Z3 prog w) A (ZaT .Add (.ref t) (.ref b)) Q E s:=by
 obtain⟨⟨cls,dd,data,sl⟩,ho,hc,n,hd⟩:=id ht
 obtain⟨⟨cls2,dd2,data2,sl2⟩,ho2,hc2,n2,hd2⟩:=id hb
 simp only at hc hd hc2 hd2
 subst hc hd hc2 hd2
 have e:vs.toArray++ws.toArray=(vs++ws).toArray:=by simp
 by_cases hw:ws=[]
 ·exact concat_meets ⟨_,ho,rfl⟩ ⟨_,ho2,rfl⟩ noFill_tuple_add seq_tuple_add ZdZ ZdL (ZdB _ _)
   (tuple_addW1 t b vs.toArray ws.toArray n n2 dd dd2 sl sl2 (by simpa using hv) (by simp[hw])) ⟨ho,ho2,h1 hw⟩
 ·refine concat_meets ⟨_,ho,rfl⟩ ⟨_,ho2,rfl⟩ noFill_tuple_add seq_tuple_add ZdZ ZdL (ZdB _ _)
   (tuple_addW2 t b vs.toArray ws.toArray n n2 dd dd2 sl sl2 (by simpa using hv) (by simpa using hw) (by rw[Z2,Z2];exact hsz)) ⟨ho,ho2,?_⟩
  rw[e]
  exact h2 hw
def sIx (n d:Nat):Option Int->Nat
 | none=>d
 | some v=>if v<0 then(v+(n:Int)).toNat else min v.toNat n
theorem sIx_none (n d:Nat):sIx n d Zc=d:=rfl
theorem sIx_nat (n d k:Nat):sIx n d (Za (k:Int))=min k n:=by
 show(if (k:Int)<0 then((k:Int)+(n:Int)).toNat else min (k:Int).toNat n)=min k n
 rw[if_neg (by omega),ZbC]
end
end HT
namespace L2
open PySem PySem.Spec PyProof.Rows
abbrev TO:=St->Hp->(Option Int->Hp->Prop)->Prop
section
variable {X:Cx}{e:Expr}{te:TE}{lo hi:Option Expr}{tl th:TO}{pos p2:Pos}
def SlR (X:Cx)(r:V->Option Int->Option Int->Hp->VK->Prop):Prop :=
 ∀(pj:PnT)(s:Zk)(σ:St)(H:Hp)(x:V)(v vl vu:Ze)(lo hi:Option Int)(sl:Zj)(Q:VK),Inv X pj σ H s->RelV x v->s.heap.IsSliceOf sl vl vu .none->ZeN vl lo->ZeN vu hi->r x lo hi H Q ->
  ∃T id,Ze5 (.type T) "__getitem__"=pure (Za (.builtin id))/\s.TypeIs v T/\Zt (Z3 X.prog X.w) X.A (Zew v (.ref sl)) (EP X pj σ Q) X.xe s
def cutV (xs:List V)(lo hi:Option Int):List V:=(xs.drop (HT.sIx xs.length 0 lo)).take (HT.sIx xs.length xs.length hi-HT.sIx xs.length 0 lo)
theorem Jko (xs:List V)(lo hi:Option Int):(cutV xs lo hi).length<=xs.length:=by
 unfold cutV
 rw[ZN,Zbf]
 omega
def J2q (K:W.Frag):R2:=λ x y H Q=>∃a b xs ys,x=.ref a/\y=.ref b/\SqT K H a xs/\SqT K H b ys/\xs≠[]/\xs.length+ys.length<=sizeLine /\
 (ys=[]->Q (.ref a) H)/\(ys≠[]->∀p,H p=Zc->Q (.ref p) (upd H p (.tup (xs++ys))))
theorem Vals.nil_iff {xs:List V}{us:List Ze}(r:Vals xs us):us=[]↔xs=[]:=by
 cases r with
 | nil=>simp
 | cons _ _=>simp
theorem Jw7:OpR X (ZaT .Add) (J2q X.K):=by
 intro pj s σ H x y v u Q I rx ry h
 obtain⟨a,b,xs,ys,rfl,rfl,ha,hb,hx,hz,q1,q2⟩:=h
 cases rx
 cases ry
 obtain⟨its,r1,p1,_⟩:=I.tuple ha
 obtain⟨its2,r2,p2,_⟩:=I.tuple hb
 refine HT.cat_tup p1 p2 (λ z=>hx (r1.nil_iff.mp z)) (λ z=>⟨.ref a,H,I,rfl,q1 (r2.nil_iff.mp z)⟩) (λ z=>?_) (by rw[<- r1.length,<-r2.length];exact hz)
 refine⟨.ref s.heap.objs.size,_,I.laid (t':=s.toks) (o:=.tup (xs++ys)) (λ b ob q=>Zi _ q) (Zr _) ?_,rfl,q2 (λ w=>z (r2.nil_iff.mpr w)) _ (I.hok.fresh (Zr _))⟩
 exact⟨by rw[ZD];exact hz,_,r1.append r2,IsTup.new _ _⟩
end
noncomputable def ixN (n:Nat)(i:Int):Option Nat:=if 0<=i then(if i<n then Za i.toNat else Zc) else if -(n:Int)<=i then Za (i+n).toNat else Zc
noncomputable def atI {α:Type}(xs:List α)(i:Int):Option α:=(ixN xs.length i).bind λ j=>xs[j]?
theorem Jws {n:Nat}{i:Int}{j:Nat}(h:ixN n i=Za j):seqIndex? i n=Za j/\j<n/\ -(n:Int)<=i/\i<n:=by
 unfold ixN at h
 by_cases h0:0<=i
 ·rw[if_pos h0] at h
  by_cases h1:i<n
  ·rw[if_pos h1] at h
   have e:i.toNat=j:=Zad h
   exact⟨by rw[seqIndex_of h0 h1,e],by omega,by omega,h1⟩
  ·rw[if_neg h1] at h;cases h
 ·rw[if_neg h0] at h
  by_cases h1: -(n:Int)<=i
  ·rw[if_pos h1] at h
   have e:(i+n).toNat=j:=Zad h
   exact⟨by rw[seqIndex_neg (by omega) h1,e],by omega,h1,by omega⟩
  ·rw[if_neg h1] at h;cases h
theorem Jkj {α:Type}{xs:List α}{i:Int}{v:α}(h:atI xs i=Za v):∃j,seqIndex? i xs.length=Za j/\xs[j]?=Za v/\j<xs.length/\ -(xs.length:Int)<=i/\i<xs.length:=by
 unfold atI at h
 cases e:ixN xs.length i with
 | none=>rw[e] at h;cases h
 | some j =>
  rw[e] at h
  obtain⟨h1,h2,h3,h4⟩:=Jws e
  exact⟨j,h1,h,h2,h3,h4⟩
def Jn7 (b:Expr):Prop:=∀o i,Zep b Zh o i=operate [o,i] (Zew o i)
def IxR (X:Cx)(r:R2):Prop :=
 ∀(value slice:Expr)(pj:PnT)(s:Zk)(σ:St)(H:Hp)(x y:V)(v u:Ze)(Q:VK),Inv X pj σ H s->RelV x v->RelV y u->r x y H Q ->
  Zep slice Zh v u=operate [v,u] (Zew v u)->Zt (Z3 X.prog X.w) X.A (ZdC value slice v u) (EP X pj σ Q) X.xe s
section
variable {X:Cx}{a b:Expr}{ta tb:TE}{pos:Pos}
def rIxL (K:W.Frag):R2:=λ x y H Q=>∃p xs i v,x=.ref p/\y=.int i/\SqL K H p xs/\atI xs i=Za v/\Q v H
def rIxT (K:W.Frag):R2:=λ x y H Q=>∃p xs i v,x=.ref p/\y=.int i/\SqT K H p xs/\atI xs i=Za v/\Q v H
def rIxS:R2:=λ x y H Q=>∃z i c,x=.str z/\y=.int i/\z.length<=sizeLine/\atI z.cps.toList i=Za c/\Q (.str ⟨#[c]⟩) H
theorem Jpw:IxR X (rIxL X.K):=by
 intro value slice pj s σ H x y v u Q I rx ry h hs
 obtain⟨p,xs,i,z,rfl,rfl,hq,he,q⟩:=h
 cases rx
 obtain⟨t,rfl⟩:=ry
 obtain⟨its,r,pl,hz⟩:=I.list hq
 obtain⟨j,h1,h2,h3,h4,h5⟩:=Jkj he
 obtain⟨w,ew,rw'⟩:=r.get h2
 have hl:=r.length
 have hn:=XT
 have fin:EP X pj σ Q w s:=⟨z,H,I,rw',q⟩
 by_cases h0:0<=i
 ·have hj:i.toNat=j:=by
   rw[seqIndex_of h0 h5] at h1
   exact Zad h1
  exact item_listR pl.isList h0 (by omega) (by rw[hj];simpa using ew) fin hs
 ·have hj:(i+(its.toArray.size:Int)).toNat=j:=by
   rw[seqIndex_neg (by omega) h4] at h1
   rw[Z2,<-hl]
   exact Zad h1
  exact ZcK (x:=w) pl.isList.typeIs slot_list_getitem.lookup
   (wpAny_getItem_list_neg (Q:=λ r s'=>r=w/\EP X pj σ Q r s') pl.isList (by omega) (by rw[Z2]<;>omega) (by omega) (by rw[hj];simpa using ew) ⟨rfl,fin⟩) hs
theorem Jzw:IxR X (rIxT X.K):=by
 intro value slice pj s σ H x y v u Q I rx ry h hs
 obtain⟨p,xs,i,z,rfl,rfl,hq,he,q⟩:=h
 cases rx
 obtain⟨t,rfl⟩:=ry
 obtain⟨its,r,pl,hz⟩:=I.tuple hq
 obtain⟨j,h1,h2,h3,h4,h5⟩:=Jkj he
 obtain⟨w,ew,rw'⟩:=r.get h2
 have hl:=r.length
 have hn:=XT
 have fin:EP X pj σ Q w s:=⟨z,H,I,rw',q⟩
 exact ZcK (x:=w) pl.typeIs slot_tuple_getitem.lookup
  (getItem_tuple (j:=j) (Q:=λ r s'=>r=w/\EP X pj σ Q r s') pl (by omega) (by omega) (by rw[Z2,<-hl];exact h1) (by simpa using ew) ⟨rfl,fin⟩) hs
theorem Jzv:IxR X rIxS:=by
 intro value slice pj s σ H x y v u Q I rx ry h hs
 obtain⟨z,i,c,rfl,rfl,hz,he,q⟩:=h
 obtain⟨t,rfl⟩:=rx
 obtain⟨t',rfl⟩:=ry
 obtain⟨j,h1,h2,h3,h4,h5⟩:=Jkj he
 have hl:z.cps.toList.length=z.length:=by simp[Str.length]
 rw[hl] at h1 h4 h5
 have hn:=XT
 exact tail_any (typeIs_str s z t) slot_str_getitem.lookup (getItem_str (c:=c) (by
  have e1:decide (i< -(2^63:Int))=Zh:=decide_eq_false (by omega)
  have e2:decide (i ≥ 2^63)=Zh:=decide_eq_false (by omega)
  rw[e1,e2,Bool.or_false]) (by rw[h1];simpa using h2) ⟨.str ⟨#[c]⟩,H,I.tok _,⟨_,rfl⟩,q⟩) hs
theorem Inv.lst {pj:PnT}{σ:St}{H:Hp}{s:Zk}{p:Zj}{xs:List V}(I:Inv X pj σ H s)(h:H p=Za (.lst xs)) :
  ∃(its:List Ze) (n:Nat),Vals xs its/\s.heap.get? p=Za { cls:=.type "list",data:=.seq its.toArray n }/\xs.length<=sizeLine:=by
 obtain⟨z,its,n,r,e⟩:=I.hok p _ h
 exact⟨its,n,r,e,z⟩
theorem Jkf (lo hi:Option Int)(n:Nat):(ZcC lo hi Zc n).1=((HT.sIx n 0 lo:Nat):Int)/\(ZcC lo hi Zc n).2.1=((HT.sIx n n hi:Nat):Int)/\(ZcC lo hi Zc n).2.2=1:=by
 refine⟨?_,?_,rfl⟩
 ·cases lo with
  | none=>simp[ZcC,HT.sIx]
  | some i =>
   simp only[ZcC,HT.sIx,Option.getD_none,show(1:Int)>0 by decide,if_true]
   by_cases h:i<0
   ·simp only[h,if_true]<;>omega
   ·simp only[h,if_false]<;>omega
 ·cases hi with
  | none=>simp[ZcC,HT.sIx]
  | some i =>
   simp only[ZcC,HT.sIx,Option.getD_none,show(1:Int)>0 by decide,if_true]
   by_cases h:i<0
   ·simp only[h,if_true]<;>omega
   ·simp only[h,if_false]<;>omega
theorem Jik (its:List Ze)(lo hi:Option Int):slicePick its.toArray lo hi Zc=((its.drop (HT.sIx its.length 0 lo)).take (HT.sIx its.length its.length hi-HT.sIx its.length 0 lo)).toArray:=by
 obtain⟨h1,h2,h3⟩:=Jkf lo hi its.toArray.size
 unfold slicePick
 rw[h1,h2,h3]
 simp only[sliceRange_one,pick_run,Z2]<;>rfl
def rSlL (K:W.Frag):V->Option Int->Option Int->Hp->VK->Prop:=λ x lo hi H Q=>∃a xs,x=.ref a/\SqL K H a xs/\∀p,H p=Zc->Q (.ref p) (upd H p (.lst (cutV xs lo hi)))
theorem Jqp:SlR X (rSlL X.K):=by
 intro pj s σ H x v vl vu lo hi sl Q I rx hs pl pu h
 obtain⟨a,xs,rfl,hx,q⟩:=h
 cases rx
 obtain⟨its,r,ht,hz⟩:=I.list hx
 have hlen:=r.length
 refine⟨"list",_,slot_list_getitem.lookup,ht.isList.typeIs,?_⟩
 refine wpAny_getItem_list_slice ht.isList hs pl pu .none (by simp) ?_ (by rw[Z2]<;>omega)
 rw[Jik,<-hlen]
 refine⟨.ref s.heap.objs.size,_,I.laid (t':=s.toks) (o:=.lst (cutV xs lo hi)) (λ b ob q=>Zi _ q) (Zr _) ?_,rfl,q _ (I.hok.fresh (Zr _))⟩
 exact⟨Zal (Jko xs lo hi) hz,_,0,(r.drop (HT.sIx xs.length 0 lo)).take (HT.sIx xs.length xs.length hi-HT.sIx xs.length 0 lo),Z1 _ rfl⟩
theorem Jcw:VW X (.type "list") (λ xs H Q=>∃p ys,xs=[.ref p]/\(SqL X.K H p ys∨SqT X.K H p ys)/\∀l,H l=Zc->Q (.ref l) (upd H l (.lst ys))):=by
 intro pj s σ H xs us Q I r h
 obtain⟨p,ys,rfl,hq,q⟩:=h
 obtain⟨u,rfl,rx⟩:=Qk r
 cases rx
 have fin:∀(its:List Ze),Vals ys its->ys.length<=sizeLine->∀(h':ZZ)(c':Nat),(∀b o',s.heap.get? b=Za o'->h'.get? b=Za o') ->
   h'.get? s.heap.objs.size=Za { cls:=.type "list",dict:=Zc,data:=.seq its.toArray c',slots:=#[] }->EP X pj σ Q (.ref s.heap.objs.size) { s with heap:=h' }:=λ its r' hz h' c' kp e =>
  ⟨.ref s.heap.objs.size,_,I.laid (t':=s.toks) kp (Zr _) (show JF X.prog X.w _ h' _ (.lst ys) from⟨hz,its,c',r',e⟩),rfl,q _ (I.hok.fresh (Zr _))⟩
 rcases hq with hq|hq
 ·obtain⟨its,r',pl,hz⟩:=I.list hq
  have hlen:=r'.length
  obtain⟨o,ho,hc,n,hd⟩:=pl.isList
  exact call_list_seq p (.inl rfl) ho hc hd (λ h' c' kp e=>fin its r' hz h' c' kp e) (by simp only[Z2]<;>omega)
 ·obtain⟨its,r',pl,hz⟩:=I.tuple hq
  have hlen:=r'.length
  obtain⟨o,ho,hc,n,hd⟩:=pl
  exact call_list_seq p (.inr rfl) ho hc hd (λ h' c' kp e=>fin its r' hz h' c' kp e) (by simp only[Z2]<;>omega)
theorem Jea:VW X (.type "tuple") (λ xs H Q=>∃p ys,xs=[.ref p]/\((SqL X.K H p ys/\∀l,H l=Zc->Q (.ref l) (upd H l (.tup ys)))∨(SqT X.K H p ys/\Q (.ref p) H))):=by
 intro pj s σ H xs us Q I r h
 obtain⟨p,ys,rfl,h⟩:=h
 obtain⟨u,rfl,rx⟩:=Qk r
 cases rx
 rcases h with⟨hq,q⟩|⟨hq,q⟩
 ·obtain⟨its,r',pl,hz⟩:=I.list hq
  have hlen:=r'.length
  refine call_tuple_list pl.isList (λ h' kp=>?_) (by simp only[Z2]<;>omega)
  have I1:Inv X pj σ H { s with heap:=h' }:=I.kept (t':=s.toks) kp
  have I2:Inv X pj σ (upd H h'.objs.size (.tup ys)) { s with heap:=h'.push { cls:=.type "tuple",data:=.seq its.toArray } } :=
   I1.laid (t':=s.toks) (λ b o e=>Zi _ e) (Zr _) (show JF X.prog X.w _ _ _ (.tup ys) from⟨hz,its,r',IsTup.new _ _⟩)
  exact⟨.ref h'.objs.size,_,I2,rfl,q _ (I1.hok.fresh (Zr _))⟩
 ·obtain⟨its,r',pl,hz⟩:=I.tuple hq
  exact call_tuple_same pl ⟨.ref p,H,I,rfl,q⟩
def tyV (K:W.Frag)(T:String)(x:V)(H:Hp):Prop:=match x with
 | .str _=>T="str"
 | .int _=>T="int"
 | .ref p=>(T="list"/\∃xs,SqL K H p xs)∨(T="tuple"/\∃o,K.lookup p=Za o/\o.cls=.type "tuple"/\o.dict=Zc) ∨
   (T="dict"/\((∃kvs,H p=Za (.dK kvs))∨∃kvs,H p=Za (.dT kvs)))∨(T="set"/\∃S n,H p=Za (.set S n))
 | _=>False
theorem Jve {pj:PnT}{σ:St}{H:Hp}{s:Zk}{T:String}{x:V}{v:Ze}(I:Inv X pj σ H s)(r:RelV x v)(ty:tyV X.K T x H) :
  s.TypeIs v T/\∀a,v=.ref a->∃ob,s.heap.get? a=Za ob/\ob.dict=Zc:=by
 cases x with
 | str z =>
  obtain⟨t,rfl⟩:=r
  cases (show T="str" from ty)
  exact⟨typeIs_str s z t,λ _ e=>nomatch e⟩
 | int i =>
  obtain⟨t,rfl⟩:=r
  cases (show T="int" from ty)
  exact⟨typeIs_int s i t,λ _ e=>nomatch e⟩
 | ref p =>
  cases r
  rcases ty with⟨rfl,xs,hq⟩|⟨rfl,o,hk,hc,hd⟩|⟨rfl,hk⟩|⟨rfl,S,n,hk⟩
  ·obtain⟨its,_,pl,_⟩:=I.list hq
   refine⟨pl.isList.typeIs,λ a e=>?_⟩
   cases e
   obtain⟨o,n,e,c,hd,_⟩:=pl
   exact⟨o,e,hd⟩
  ·refine⟨⟨o,I.kIn p o hk,hc⟩,λ a e=>?_⟩
   cases e
   exact⟨o,I.kIn _ o hk,hd⟩
  ·have z:∃o,s.heap.get? p=Za o/\o.ExactDict:=by
    rcases hk with⟨kvs,hk⟩|⟨kvs,hk⟩
    ·obtain⟨_,_,_,_,o,_,_,e,ex,_⟩:=I.hok p _ hk
     exact⟨o,e,ex⟩
    ·obtain⟨_,_,_,_,o,_,_,e,ex,_⟩:=I.hok p _ hk
     exact⟨o,e,ex⟩
   obtain⟨o,e,ex⟩:=z
   refine⟨⟨o,e,ex.1⟩,λ a e2=>?_⟩
   cases e2
   exact⟨o,e,ex.2.1⟩
  ·obtain⟨o,_,_,_,e,ex,_⟩:=I.hok p _ hk
   refine⟨⟨o,e,ex.1⟩,λ a e2=>?_⟩
   cases e2
   exact⟨o,e,ex.2.1⟩
 | _=>exact Za9 ty
variable {o e:Expr}{es:List Expr}{to:TE}{t:TA}{name:Str}{apos cpos:Pos}{T id:String}{r:V->List V->Hp->VK->Prop}
end
def MtM (X:Cx)(id:String)(r:V->List V->Hp->VK->Prop):Prop :=
 ∀(pj:PnT)(s:Zk)(σ:St)(H:Hp)(x:V)(xs:List V)(v:Ze)(us:List Ze)(Q:VK),Inv X pj σ H s->RelV x v->Vals xs us->r x xs H Q ->
  Zt (Z3 X.prog X.w) X.A (call (.builtin id) (v::us)) (EP X pj σ Q) X.xe s
theorem Vals.one:∀{x:V}{us:List Ze},Vals [x] us->∃u,us=[u]/\RelV x u
 | _,_,.cons r .nil=>⟨_,rfl,r⟩
theorem Vals.two:∀{x y:V}{us:List Ze},Vals [x,y] us->∃u v,us=[u,v]/\RelV x u/\RelV y v
 | _,_,_,.cons r (.cons q .nil)=>⟨_,_,rfl,r,q⟩
theorem Vals.zero:∀{us:List Ze},Vals [] us->us=[]
 | _,.nil=>rfl
theorem Vals.eraseIdx:∀{xs:List V}{us:List Ze}(i:Nat),Vals xs us->Vals (xs.eraseIdx i) (us.eraseIdx i)
 | _,_,_,.nil=>.nil
 | _,_,0,.cons _ t=>t
 | _,_,i+1,.cons r t=>.cons r (Vals.eraseIdx i t)
theorem Vals.reverse {xs:List V}{us:List Ze}(h:Vals xs us):Vals xs.reverse us.reverse:=by
 induction h with
 | nil=>exact .nil
 | cons r t ih=>rw[ZcL,ZcL];exact Vals.append ih (.cons r .nil)
theorem Vals.rep {xs:List V}{us:List Ze}(h:Vals xs us):∀k:Nat,Vals (ZO k xs).flatten (ZO k us).flatten
 | 0=>.nil
 | k+1=>by
  rw[Zbc,Zbc,ZbD,ZbD]
  exact Vals.append h (Vals.rep h k)
theorem Jjr {α:Type}:∀(l:List α)(i:Nat),(l.eraseIdx i).length<=l.length
 | [],_=>Zr _
 | _::_,0=>ZaC _
 | _::r,i+1=>ZcX (Jjr r i)
theorem Jja (its:List Ze):∀(k:Nat)(acc:List Ze),
  List.foldl (λ x1 x2=>x1++x2) acc.toArray (ZO k its.toArray)=(acc++(ZO k its).flatten).toArray
 | 0,acc=>by simp
 | k+1,acc=>by
  have e:acc.toArray++its.toArray=(acc++its).toArray:=by simp
  have e2:(acc++its)++(ZO k its).flatten=acc++(ZO (k+1) its).flatten:=by
   rw[Zbc,ZbD,ZF]
  rw[<- e2,<-Jja its k (acc++its),<-e,Zbc,List.foldl_cons]
section
variable {X:Cx}{pj:PnT}{σ:St}{H:Hp}{s:Zk}{l b:Zj}{xs ys zs:List V}
theorem Inv.lset {its its':List Ze}{n:Nat}{f:Array Ze->Array Ze}{t':Nat}(I:Inv X pj σ H s)(hH:H l=Za (.lst xs))
  (e:s.heap.get? l=Za { cls:=.type "list",data:=.seq its.toArray n })(hf:f its.toArray=its'.toArray)(hv:Vals ys its')(hz:ys.length<=sizeLine) :
  Inv X pj σ (upd H l (.lst ys)) { s with heap:=s.heap.update l (Zat f),toks:=t' }:=by
 have q:=PySem.IsL.update e f
 rw[hf] at q
 refine I.write (x:=l) (e:=l) (by rw[hH];exact trivial) (.inl rfl) (λ b' u hb hu=>(Zy s.heap (Zat f) (ZT hb)).trans hu) ⟨_,q⟩ ?_
 exact⟨hz,its',_,hv,q⟩
theorem Inv.lnew {its:List Ze}{t':Nat}(I:Inv X pj σ H s)(hv:Vals ys its)(hz:ys.length<=sizeLine) :
  Inv X pj σ (upd H s.heap.objs.size (.lst ys)) { s with heap:=s.heap.push { cls:=.type "list",data:=.seq its.toArray },toks:=t' } :=
 I.laid (λ _ _ q=>Zi _ q) (Zr _) ⟨hz,its,0,hv,Z1 _ rfl⟩
theorem Inv.fresh (I:Inv X pj σ H s):H s.heap.objs.size=Zc:=I.hok.fresh (Zr _)
theorem Inv.lstM (I:Inv X pj σ H s)(hH:H l=Za (.lst xs)):xs.length<=sizeLine/\∃(its:List Ze) (n:Nat),Vals xs its/\xs.length=its.length/\s.heap.get? l=Za { cls:=.type "list",data:=.seq its.toArray n }:=by
 obtain⟨z,its,n,r,e⟩:=I.hok l _ hH
 exact⟨z,its,n,r,r.length,e⟩
theorem Jl7 {n:Nat}(h:n<=sizeLine):ZbI n=Zh:=by
 unfold ZbI
 exact decide_eq_false (by omega)
end
section
variable {X:Cx}
def Jxc:V->List V->Hp->VK->Prop:=λ x vs H Q=>∃l xs y,x=.ref l/\vs=[y]/\H l=Za (.lst xs)/\xs.length<sizeLine/\Q .non (upd H l (.lst (xs++[y])))
theorem Jju:MtM X "list.append" Jxc:=by
 intro pj s σ H x vs v us Q I rx rv h
 obtain⟨l,xs,y,rfl,rfl,hH,hz,q⟩:=h
 cases rx
 obtain⟨u,rfl,ru⟩:=rv.one
 obtain⟨z,its,n,r,hl,e⟩:=I.lstM hH
 refine Zdv F.slot_list_append ⟨_,e,rfl⟩ F.entry_list_append (F.args_list_append_2 _ _) (PySem.list_append l its.toArray n u (by rw[Z2];omega)) ⟨e,?_⟩
 refine⟨.non,_,I.lset (its':=its++[u]) hH e (by simp) (r.append (.cons ru .nil)) ?_,rfl,q⟩
 rw[ZD,ZcT]
 omega
def Jxd:V->List V->Hp->VK->Prop:=λ x vs H Q=>∃l b xs zs,x=.ref l/\vs=[.ref b]/\H l=Za (.lst xs)/\H b=Za (.lst zs)/\xs.length+zs.length<=sizeLine/\Q .non (upd H l (.lst (xs++zs)))
theorem Jp8:MtM X "list.extend" Jxd:=by
 intro pj s σ H x vs v us Q I rx rv h
 obtain⟨l,b,xs,zs,rfl,rfl,hH,hB,hz,q⟩:=h
 cases rx
 obtain⟨u,rfl,ru⟩:=rv.one
 cases ru
 obtain⟨z,its,n,r,hl,e⟩:=I.lstM hH
 obtain⟨z2,its2,n2,r2,hl2,e2⟩:=I.lstM hB
 have hsz:its.toArray.size+its2.toArray.size<=sizeLine:=by rw[Z2,Z2];omega
 have hlong:¬(!its.toArray.isEmpty&&ZbI (its.toArray.size+its2.toArray.size))=Zd:=by
  rw[Jl7 hsz,Bool.and_false]
  exact Zq
 refine Zdv F.slot_list_extend ⟨_,e,rfl⟩ F.entry_list_extend (F.args_list_extend_2 _ _)
  (AutoSeq1.list_extend_list_list_0 l its.toArray n b its2.toArray n2 hlong (by rw[Z2];omega) (by omega)) ⟨e,e2,?_⟩
 refine⟨.non,_,I.lset (its':=its++its2) hH e (by simp) (r.append r2) ?_,rfl,q⟩
 rw[ZD]
 omega
def rCat:R2:=λ x y H Q=>∃l b xs zs,x=.ref l/\y=.ref b/\H l=Za (.lst xs)/\H b=Za (.lst zs)/\xs.length+zs.length<=sizeLine/\∀p,H p=Zc->Q (.ref p) (upd H p (.lst (xs++zs)))
theorem J0c:OpR X (ZaT .Add) rCat:=by
 intro pj s σ H x y v u Q I rx ry h
 obtain⟨l,b,xs,zs,rfl,rfl,hH,hB,hz,q⟩:=h
 cases rx
 cases ry
 obtain⟨z,its,n,r,hl,e⟩:=I.lstM hH
 obtain⟨z2,its2,n2,r2,hl2,e2⟩:=I.lstM hB
 refine PySem.P.add_list e e2 ?_ (by rw[Z2,Z2];omega)
 have ea:its.toArray++its2.toArray=(its++its2).toArray:=by simp
 rw[ea]
 exact⟨.ref _,_,I.lnew (t':=s.toks) (r.append r2) (by rw[ZD];omega),rfl,q _ I.fresh⟩
def rRep:R2:=λ x y H Q=>∃l k xs,x=.ref l/\y=.int k/\H l=Za (.lst xs)/\ -(2^63)<=k/\k<2^63/\xs.length*k.toNat<=sizeLine /\
 ∀p,H p=Zc->Q (.ref p) (upd H p (.lst (ZO k.toNat xs).flatten))
theorem Jwv {α:Type}(xs:List α)(k:Nat):(ZO k xs).flatten.length=k*xs.length:=by
 induction k with
 | zero=>simp
 | succ k ih=>rw[Zbc,ZbD,ZD,ih,Nat.succ_mul,Nat.add_comm]
theorem J0f:OpR X (ZaT .Mult) rRep:=by
 intro pj s σ H x y v u Q I rx ry h
 obtain⟨l,k,xs,rfl,rfl,hH,h1,h2,hz,q⟩:=h
 cases rx
 obtain⟨t,rfl⟩:=ry
 obtain⟨z,its,n,r,hl,e⟩:=I.lstM hH
 have hlen:its.toArray.size*k.toNat<=sizeLine:=by rw[Z2,<-hl];exact hz
 have hcap:¬its.toArray.size*k.toNat>(2^63-1)/8:=by
  have:(sizeLine:Nat)<=(2^63-1)/8:=by decide
  omega
 have hfit:¬(!Builtin.List.listFitsIndex k)=Zd:=by
  rw[fitsIndex_both h1 h2]
  exact Zq
 have hlong:¬ZbI (its.toArray.size*k.toNat)=Zd:=by
  rw[Jl7 hlen]
  exact Zq
 have hnew:List.foldl (λ x1 x2=>x1++x2) #[] (ZO (if its.toArray.isEmpty=Zd then 0 else k.toNat) its.toArray)=(ZO k.toNat its).flatten.toArray:=by
  have f0:∀m:Nat,List.foldl (λ x1 x2=>x1++x2) #[] (ZO m its.toArray)=(ZO m its).flatten.toArray:=λ m=>by
   have:=Jja its m []
   rw[Za3] at this
   exact this
  rw[f0]
  cases its with
  | nil=>simp
  | cons a r'=>rw[if_neg (by simp)]
 refine wpAny_binaryOp_repeat_ref (T:="list") (U:="int") (by decide) ⟨_,e,rfl⟩ (λ s'=>typeIs_int s' k t) noFill_list_mul F.fills_int_mul F.slot_int_rmul repeat_list F.slot_int_index.lookup
  (Zdv F.slot_int_rmul (typeIs_int s k t) F.entry_int_rmul (F.args_int_rmul_2 _ _) (int___rmul___int_list k t l its.toArray n)
   ⟨e,rfl,⟨_,e,rfl⟩,Zdv F.slot_list_mul ⟨_,e,rfl⟩ F.entry_list_mul (F.args_list_mul_2 _ _) (AutoListH.list___mul___list_int_3 l its.toArray n k t hfit hcap hlong) ⟨e,?_⟩⟩)
 rw[hnew]
 exact⟨.ref _,_,I.lnew (t':=s.toks) (r.rep k.toNat) (by rw[Jwv,Nat.mul_comm];exact hz),rfl,q _ I.fresh⟩
end
section
variable {prog:ZA}{w:ZM}{A:ZG}{E:QvT}{s:Zk}
end
section
variable {X:Cx}
end
section
variable {κ:Type}[DecidableEq κ]
def valV (kvs:List (κ×V))(k:κ):Option V:=(kvs.find? λ kv=>decide (kv.1=k)).map (·.2)
def putK (kvs:List (κ×V))(k:κ)(v:V):List (κ×V) :=
 if (kvs.any λ kv=>decide (kv.1=k))=Zd then kvs.map (λ kv=>if kv.1=k then(kv.1,v) else kv) else kvs++[(k,v)]
def Jy1 (kvs:List (κ×V))(k:κ):List (κ×V):=kvs.filter λ kv=>decide (kv.1≠k)
theorem Jfo {p:κ×V}{r:List (κ×V)}{k:κ}(e:p.1=k):valV (p::r) k=Za p.2:=by simp[valV,Zbq,e]
theorem Jfn {p:κ×V}{r:List (κ×V)}{k:κ}(e:¬p.1=k):valV (p::r) k=valV r k:=by simp[valV,Zbq,e]
theorem Jfm (k:κ):∀kvs:List (κ×V),(kvs.any λ kv=>decide (kv.1=k))=(valV kvs k).isSome
 | []=>rfl
 | p::r=>by
  rw[ZbW]
  by_cases e:p.1=k
  ·simp only[Jfo e,decide_eq_true e,Bool.true_or,Option.isSome_some]
  ·rw[Jfn e,decide_eq_false e,Bool.false_or];exact Jfm k r
theorem Jic {kvs:List (κ×V)}{k:κ}(v:V)(h:valV kvs k=Zc):putK kvs k v=kvs++[(k,v)]:=by
 unfold putK
 rw[Jfm,h]
 exact if_neg (by decide)
theorem RelO.isSome_eq {o:Option V}{u:Option Ze}(r:RelO o u):o.isSome=u.isSome:=by
 cases o with
 | none=>cases u with
  | none=>rfl
  | some _=>exact Zf r
 | some _=>cases u with
  | none=>exact Zf r
  | some _=>rfl
theorem RelO.getD {o:Option V}{u:Option Ze}{d:V}{d':Ze}(r:RelO o u)(rd:RelV d d'):RelV (o.getD d) (u.getD d'):=by
 cases o with
 | none=>cases u with
  | none=>exact rd
  | some _=>exact Zf r
 | some _=>cases u with
  | none=>exact Zf r
  | some _=>exact r
theorem KV.val {kvs:List (κ×V)}{vs:List (κ×Ze)}(r:KV kvs vs)(k:κ):RelO (valV kvs k) (ZeE vs k):=by
 unfold KV at r
 induction r with
 | nil=>exact ZaK
 | @cons p q ps qs h t ih =>
  obtain⟨h1,h2⟩:=h
  by_cases e:p.1=k
  ·have e':q.1=k:=h1.symm.trans e
   have b:ZeE (q::qs) k=Za q.2:=by simp[ZeE,Zbq,e']
   rw[Jfo e,b];exact h2
  ·have e':¬q.1=k:=λ z=>e (h1.trans z)
   have b:ZeE (q::qs) k=ZeE qs k:=by simp[ZeE,Zbq,e']
   rw[Jfn e,b];exact ih
theorem KV.any {kvs:List (κ×V)}{vs:List (κ×Ze)}(r:KV kvs vs)(k:κ):(kvs.any λ kv=>decide (kv.1=k))=vs.any λ kv=>decide (kv.1=k):=by
 unfold KV at r
 induction r with
 | nil=>rfl
 | cons h t ih=>rw[ZbW,ZbW,ih,h.1]
theorem KV.repl {kvs:List (κ×V)}{vs:List (κ×Ze)}(r:KV kvs vs)(k:κ){y:V}{u:Ze}(ry:RelV y u) :
  KV (kvs.map λ kv=>if kv.1=k then(kv.1,y) else kv) (vs.map λ kv=>if kv.1=k then(kv.1,u) else kv):=by
 unfold KV at r ⊢
 induction r with
 | nil=>exact .nil
 | @cons p q ps qs h t ih =>
  rw[Zu,Zu]
  refine .cons ?_ ih
  obtain⟨h1,h2⟩:=h
  by_cases e:p.1=k
  ·rw[if_pos e,if_pos (h1.symm.trans e)];exact⟨h1,ry⟩
  ·rw[if_neg e,if_neg (λ z=>e (h1.trans z))];exact⟨h1,h2⟩
theorem KV.put {kvs:List (κ×V)}{vs:List (κ×Ze)}(r:KV kvs vs)(k:κ){y:V}{u:Ze}(ry:RelV y u):KV (putK kvs k y) (stored vs k u):=by
 unfold putK stored
 rw[r.any k]
 by_cases e:(vs.any λ kv=>decide (kv.1=k))=Zd
 ·rw[if_pos e,if_pos e];exact r.repl k ry
 ·rw[if_neg e,if_neg e];exact Paired.snoc r ⟨rfl,ry⟩
theorem KV.drop {kvs:List (κ×V)}{vs:List (κ×Ze)}(r:KV kvs vs)(k:κ):KV (Jy1 kvs k) (without vs k):=by
 unfold KV at r ⊢
 unfold Jy1 without
 induction r with
 | nil=>exact .nil
 | @cons p q ps qs h t ih =>
  obtain⟨h1,h2⟩:=h
  rw[ZbM,ZbM]
  by_cases e:p.1=k
  ·have a:¬decide (p.1≠k)=Zd:=by simp[e]
   have b:¬decide (q.1≠k)=Zd:=by simp[h1.symm.trans e]
   rw[if_neg a,if_neg b];exact ih
  ·have e':¬q.1=k:=λ z=>e (h1.trans z)
   have a:decide (p.1≠k)=Zd:=by simp[e]
   have b:decide (q.1≠k)=Zd:=by simp[e']
   rw[if_pos a,if_pos b];exact .cons ⟨h1,h2⟩ ih
theorem KV.keys {kvs:List (κ×V)}{vs:List (κ×Ze)}(r:KV kvs vs):kvs.map (·.1)=vs.map (·.1):=by
 unfold KV at r
 induction r with
 | nil=>rfl
 | cons h t ih=>rw[Zu,Zu,ih,h.1]
theorem KV.length {kvs:List (κ×V)}{vs:List (κ×Ze)}(r:KV kvs vs):kvs.length=vs.length:=Zey r
end
theorem Jwt {P:ZA}{w:ZM}{k:Key}{u:Ze}(r:RelV (kV k) u):(QQ P w).is k u=Zd:=by
 cases k with
 | inl i=>obtain⟨t,e⟩:=(show ∃t,u=Zdq i t from r);subst e;exact Jku P w i t
 | inr x=>obtain⟨t,e⟩:=(show ∃t,u=Zev x t from r);subst e;exact Jkv P w x t
abbrev KT (H:Hp):List (List Key×V)->List (List Key×Zj×Ze)->Prop:=Paired λ p q=>p.1=q.1/\H q.2.1=Za (.tup (p.1.map kV))/\RelV p.2 q.2.2
theorem KT.val {H:Hp}{kvs:List (List Key×V)}{xs:List (List Key×Zj×Ze)}(r:KT H kvs xs)(k:List Key):RelO (valV kvs k) ((atKey xs k).map (·.2)):=by
 induction r with
 | nil=>exact ZaK
 | @cons p q ps qs h t ih =>
  obtain⟨h1,_,h2⟩:=h
  by_cases e:p.1=k
  ·have e':q.1=k:=h1.symm.trans e
   have b:atKey (q::qs) k=Za q.2:=by simp[atKey,Zbq,e']
   rw[Jfo e,b];exact h2
  ·have e':¬q.1=k:=λ z=>e (h1.trans z)
   have b:atKey (q::qs) k=atKey qs k:=by simp[atKey,Zbq,e']
   rw[Jfn e,b];exact ih
theorem KT.repl {H:Hp}{kvs:List (List Key×V)}{xs:List (List Key×Zj×Ze)}(r:KT H kvs xs)(k:List Key){y:V}{u:Ze}(ry:RelV y u) :
  KT H (kvs.map λ kv=>if kv.1=k then(kv.1,y) else kv) (xs.map (putAt k u)):=by
 induction r with
 | nil=>exact .nil
 | @cons p q ps qs h t ih =>
  rw[Zu,Zu]
  refine .cons ?_ ih
  obtain⟨h1,h2,h3⟩:=h
  unfold putAt
  by_cases e:p.1=k
  ·rw[if_pos e,if_pos (h1.symm.trans e)];exact⟨h1,h2,ry⟩
  ·rw[if_neg e,if_neg (λ z=>e (h1.trans z))];exact⟨h1,h2,h3⟩
theorem KT.put {H:Hp}{kvs:List (List Key×V)}{xs:List (List Key×Zj×Ze)}(r:KT H kvs xs)(k:List Key){b:Zj}{y:V}{u:Ze}(hb:H b=Za (.tup (k.map kV)))(ry:RelV y u) :
  KT H (putK kvs k y) (storedH xs k b u):=by
 have e:(kvs.any λ kv=>decide (kv.1=k))=(atKey xs k).isSome:=by
  rw[Jfm,(r.val k).isSome_eq,Option.isSome_map]
 unfold putK storedH
 rw[e]
 by_cases q:(atKey xs k).isSome=Zd
 ·rw[if_pos q,if_pos q];exact r.repl k ry
 ·rw[if_neg q,if_neg q];exact Paired.snoc r ⟨rfl,hb,ry⟩
theorem KT.keeps {H H':Hp}{kvs:List (List Key×V)}{xs:List (List Key×Zj×Ze)}(r:KT H kvs xs)(ht:∀b ys,H b=Za (.tup ys)->H' b=Za (.tup ys)):KT H' kvs xs :=
 Paired.mapP r λ _ _ z=>⟨z.1,ht _ _ z.2.1,z.2.2⟩
section
variable {P:ZA}{w:ZM}{H:Hp}{h:ZZ}{a:Zj}
theorem J2r {u:HO}(ok:HOk P w H h)(e:Rd H a u):JF P w H h a u:=e.ok ok
theorem J1v {kvs:List (Key×V)}(ok:HOk P w H h)(e:Rd H a (.dK kvs)):kvs.length<=sizeLine/\(a==Zc4)=Zh/\∃vs,KV kvs vs/\h.DictOf (QQ P w) a vs :=
 show JF P w H h a (.dK kvs) from J2r ok e
theorem Jvw {kvs:List (Key×V)}(ok:HOk P w H h)(e:H a=Za (.dK kvs)):kvs.length<=sizeLine/\(a==Zc4)=Zh/\∃vs,KV kvs vs/\h.DictOf (QQ P w) a vs:=J1v ok (.inl e)
end
def DGet (H:Hp)(a:Zj)(y:V)(r:Option V):Prop :=
 (∃kvs k,Rd H a (.dK kvs)/\y=kV k/\r=valV kvs k)∨∃kvs k b,Rd H a (.dT kvs)/\y=.ref b/\H b=Za (.tup (k.map kV))/\r=valV kvs k
def DPut (H:Hp)(a:Zj)(y v:V)(H':Hp):Prop :=
 (∃kvs k,H a=Za (.dK kvs)/\y=kV k/\kvs.length<sizeLine/\H'=upd H a (.dK (putK kvs k v))) ∨
 ∃kvs k b,H a=Za (.dT kvs)/\y=.ref b/\H b=Za (.tup (k.map kV))/\kvs.length<sizeLine/\H'=upd H a (.dT (putK kvs k v))
theorem DGet.k {H:Hp}{a:Zj}{kvs:List (Key×V)}{k:Key}(e:H a=Za (.dK kvs)):DGet H a (kV k) (valV kvs k):=.inl ⟨kvs,k,.inl e,rfl,rfl⟩
theorem DGet.t {H:Hp}{a b:Zj}{kvs:List (List Key×V)}{k:List Key}(e:H a=Za (.dT kvs))(eb:H b=Za (.tup (k.map kV))):DGet H a (.ref b) (valV kvs k):=.inr ⟨kvs,k,b,.inl e,rfl,eb,rfl⟩
theorem DPut.k {H:Hp}{a:Zj}{kvs:List (Key×V)}{k:Key}{v:V}(e:H a=Za (.dK kvs))(hl:kvs.length<sizeLine):DPut H a (kV k) v (upd H a (.dK (putK kvs k v))):=.inl ⟨kvs,k,e,rfl,hl,rfl⟩
theorem DPut.t {H:Hp}{a b:Zj}{kvs:List (List Key×V)}{k:List Key}{v:V}(e:H a=Za (.dT kvs))(eb:H b=Za (.tup (k.map kV)))(hl:kvs.length<sizeLine) :
  DPut H a (.ref b) v (upd H a (.dT (putK kvs k v))):=.inr ⟨kvs,k,b,e,rfl,eb,hl,rfl⟩
section
variable {X:Cx}{pj:PnT}{σ:St}{H:Hp}{s:Zk}{a:Zj}{y v:V}{u r:Ze}{o:Option V}{A:ZG}{E:QvT}
theorem Inv.big (I:Inv X pj σ H s):Zc4<s.heap.objs.size:=by
 have h:Zm<s.heap.objs.size:=(I.mod.glob.keeps I.bk).lt
 exact Nat.lt_trans (by decide) h
theorem Jvu {h':ZZ}{t':Nat}{ob:HO}(I:Inv X pj σ H s)(mu:Mut (H a))(hs:ZcG a s.heap h')(he:∃q,h'.get? a=Za q)(new:JF X.prog X.w (upd H a ob) h' a ob) :
  Inv X pj σ (upd H a ob) { s with heap:=h',toks:=t' } :=
 I.write (x:=a) (e:=a) mu (.inl rfl) (λ b q hb z=>(hs.2 b hb).trans z) he new
theorem Jy0 {P:ZA}{w:ZM}{H':Hp}{h':ZZ}{kvs:List (Key×V)}{vs:List (Key×Ze)}(z:kvs.length<=sizeLine)(hd:(a==Zc4)=Zh)(rel:KV kvs vs)(dd:h'.DictOf (QQ P w) a vs) :
  JF P w H' h' a (.dK kvs):=⟨z,hd,vs,rel,dd⟩
end
section
variable {X:Cx}{pj:PnT}{σ:St}{H:Hp}{s:Zk}{a:Zj}{kvs:List (Key×V)}{k:Key}{u:Ze}{A:ZG}{E:QvT}
end
section
variable {X:Cx}{o i e value:Expr}{pos pos' tpos:Pos}{td ty tv:TE}
end
theorem Jr2 {P:ZA}{w:ZM}{H:Hp}(h:ZZ)(hb:Zc4<h.objs.size):JF P w H (h.push { cls:=.type "dict",data:=.dict #[] }) h.objs.size (.dK []) :=
 ⟨Zaa _,beq_eq_false_iff_ne.mpr (ZT (Z6 hb)),[],.nil,Heap.DictOf.new h⟩
section
variable {X:Cx}{pos:Pos}
end
section
variable {X:Cx}{pj:PnT}{σ:St}{H:Hp}{s:Zk}{a:Zj}{y d:V}{u r:Ze}{o:Option V}{A:ZG}{E:QvT}
end
section
variable {X:Cx}{o e f:Expr}{apos cpos:Pos}{td ty tx:TE}
end
section
variable {X:Cx}{pj:PnT}{σ:St}{H:Hp}{s:Zk}{a:Zj}{kvs:List (Key×V)}{A:ZG}{E:QvT}
end
end L2
namespace Att
open PySem PySem.W PySem.Calls PyProof.Rows
theorem Jge {P:Params}{h:ZZ}:∀(ns:List Int)(vs:List Ze),WellAll P h vs (ns.map WData.int)->Zca vs ns:=by
 intro ns
 induction ns with
 | nil =>
  intro vs w
  rw[Zaz] at w
  cases w
  exact .nil
 | cons n ns ih =>
  intro vs w
  rw[Zu] at w
  cases w with
  | cons a b =>
   cases a
   exact .cons _ _ (ih _ b)
theorem Jqo {l:OpenLaw}{n:Nat}(hn:l.most=Za n){P:Params}{h:ZZ}{args:List WData}{vals:List Ze}
  (hpre:l.row.toRowW.claim.pre args=Zd)(hwl:WellAll P h vals args) :
  ∃a vs ns,vals=[ZaI a]/\args=[WData.list (ns.map WData.int)]/\h.get? a=Za { cls:=.type "list",data:=.seq vs.toArray }/\Zca vs ns/\ns.length<=n:=by
 have hsh:WShape.hasAll [] args [.list .int]=Zd:=(pre_splitW hpre).1
 have hc:l.pre.holds [] { args:=args }=Zd:=(pre_splitW hpre).2
 obtain⟨d,r,rfl,h1,h2⟩:=hasAllW_cons hsh
 obtain rfl:=hasAllW_nil h2
 obtain⟨xs,rfl,h3⟩:=hasW_list h1
 obtain⟨ns,rfl⟩:=items_int h3
 have hlen:ns.length<=n:=by
  unfold OpenLaw.pre at hc
  have h4:(WTm.not (.lt (.lit (.int (n:Int))) (.len (.arg 0)))).holds [] { args:=[.list (ns.map .int)] }=Zd:=by
   have h4:=(holds_andW hc).1
   rw[hn] at h4
   exact h4
  have h5:=condW_of h4 (w_not (w_lt w_lit (w_len_list (w_arg rfl))))
  rw[Zp] at h5
  refine ZdM λ q=>?_
  have q':(n:Int)<((ns.length:Nat):Int):=by omega
  first
   | (rw[decide_eq_true q'] at h5;exact absurd h5 (by decide))
   | (simp at h5;omega)
 cases hwl with
 | cons w1 w2 =>
  cases w2
  cases w1 with
  | list ho hall=>exact⟨_,_,ns,rfl,rfl,ho,Jge ns _ hall,hlen⟩
theorem Jqe (l:OpenLaw)(args:List WData):l.row.toRowW.claim.post args (.bool Zd) args=Zd :=
 postW_of (r:=l.row.toRowW) (X:=(Zd==Zd))
  (show WShape.has [] (.bool Zd) .bool=Zd by first|rfl|decide|simp[WShape.has,WShape.arms,WShape.armsAll])
  (show(WTm.eq .res (.lit (.bool Zd))).value [] { args:=args,res:=Za (.bool Zd),after:=args }=Za (.bool (Zd==Zd)) from w_eq_bool (w_res rfl) w_lit) rfl
theorem attach_call {l:OpenLaw}{n:Nat}{q:ZA}{loose:List Str}{XP:(Str->Option Ze)->ZZ->Prop}{YP:ZM->ZZ->Prop}{d:DefRec}
  (hn:l.most=Za n)(hdf:d.params.defaults=[])
  (call:∀(w:ZM)(s₀ s₁:Zk)(mg mb:Str->Option Ze)(fa:Zj)(o:Obj)(pm cd doc:Ze)(a:Zj)(vs:List Ze)(ns:List Int),
   Ground q loose [] XP w s₀ mg mb s₁.heap->YP w s₁.heap ->
   s₁.heap.get? fa=Za o->o.data=.func (docDef d.name d.params d.body d.scope pm cd doc)->s₁.heap.CodeRec cd d.name->mg d.name=Za (.ref fa) ->
   s₁.heap.get? a=Za { cls:=.type "list",data:=.seq vs.toArray }->Zca vs ns->ns.length<=n->s₁.gens=#[] ->
   ZbZ (Z3 l.prog w) Zex (.call (.ref fa) ⟨[.ref a],[]⟩) (λ r s'=>r=.ok (.ret (.bool Zd))/\OldK s₁.heap s'.heap/\s'.os=s₁.os/\Zdn s'.gens) s₁) :
  WalkO q loose XP YP l.row.toRowW d [] (λ f vs=>PySem.call f vs):=by
 intro w s₀ s₁ mg mb G Y fa o pm cd doc dV kV ho hd hcd hD hmg hg args vals as hpre hlay hrd hwl hlo
 obtain rfl:dV=.none:=Dflts.none hD hdf
 obtain rfl:kV=.none:=Dflts.noKw hD
 obtain⟨a,vs,ns,rfl,rfl,hobj,hints,hlen⟩:=Jqo hn hpre hwl
 refine enter_call (ZbS (call w s₀ s₁ mg mb fa o pm cd doc a vs ns G Y ho (fd_plain hd) hcd hmg hobj hints hlen hg) λ r s' hq=>?_)
 obtain⟨rfl,h2,h3,h4⟩:=hq
 exact⟨.inl ⟨.bool Zd,.bool Zd,[],rfl,λ _=>rfl,.bool Zd,Jqe l _,λ _=>⟨List.Pairwise.nil,λ _ hm=>(nomatch hm)⟩⟩,h2,h3,h4⟩
section
variable {prog:ZA}{w:ZM}{A:ZG}{E:QvT}{s:Zk}{K:Frag}
end
end Att
namespace L2
open PySem PySem.Spec PyProof.Rows
theorem Xu:∀{vs:List Ze}{ns:List Int},Zca vs ns->Vals (ns.map V.int) vs
 | _,_,.nil=>.nil
 | _,_,.cons n t h=>.cons ⟨t,rfl⟩ (Xu h)
noncomputable def Vw (s:Zb2)(j:Nat):Zb2:=match s with
 | .ClassDef _ _ _ body _ _ _ _ _ _ _=>body.getD j (.Pass ⟨0,0,0,0⟩)
 | _=>.Pass ⟨0,0,0,0⟩
def Qi (s:Zb2):ZcB:=match s with
 | .FunctionDef _ a _ _ _ _ _ _ _ _=>a
 | _=>{ posonlyargs:=[],args:=[],vararg:=Zc,kwonlyargs:=[],kw_defaults:=[],kwarg:=Zc,defaults:=[] }
def JG (s:Zb2):List Zb2:=match s with
 | .FunctionDef _ _ b _ _ _ _ _ _ _=>b
 | _=>[]
def Jy (s:Zb2):ZaY:=match s with
 | .FunctionDef _ _ _ _ _ _ sc _ _ _=>sc
 | _=>{ kind:=.function,names:=[],isGenerator:=Zh,isCoroutine:=Zh }
abbrev CX0:CXT:=λ _ _ _ _ _ _=>False
structure Fun (K:W.Frag)(x qual:Str)(st:Zb2)(f:Zj)(fd:Zap):Prop where
 ex:∃(oc:Ze)(od:Option Zj)(kV doc pm:Ze)(an:Option Zj)(cdv ct:Ze)(osl:Array (Option Ze)),
  fd=W.fnOf x qual (Qi st) (JG st) (Jy st) .none kV doc pm an cdv ct/\K.lookup f=Za ⟨oc,od,.func fd,osl⟩/\W.codeIn K cdv qual=Zd
 kp:W.keepIn K (.ref f)=Zd
section
variable {P:ZA}{w:ZM}{K:W.Frag}{mg:Str->Option Ze}{base:ZZ}
theorem Fun.ok {x qual:Str}{st:Zb2}{f:Zj}{fd:Zap}{N ps:List Str}{k:Nat}{sp:Sp}(F:Fun K x qual st f fd)(S:FnScope N ps (Jy st))(len:∀vs H Q E,sp vs H Q E->vs.length=ps.length)
  (hbody:∀(cdv:Ze)(A:ZG)(outer:List Env)(s:Zk)(H:Hp)(vs:List V)(Q:VK)(E:XK),Room k (A.deeper (ZcW qual (Jy st) s.heap.objs.size f cdv))->sp vs H Q E ->
   ∃t,PSs (cxOf CX0 P w K mg base N qual (Jy st) f cdv A outer s H E).nox (JG st) t/\t { nx:=λ _ H'=>Q .non H',rt:=Q } (start N vs) H):FnOk P w K mg base CX0 (k+1) f fd ps sp:=by
 obtain⟨oc,od,kV,doc,pm,an,cdv,ct,osl,rfl,lk,hcd⟩:=F.ex
 refine Jy5 lk hcd S len λ A outer s H vs Q E hr hsp=>?_
 obtain⟨t,h,q⟩:=hbody cdv A outer s H vs Q E hr hsp
 exact⟨t,h.nox,q⟩
theorem Fun.binds {x qual:Str}{st:Zb2}{f:Zj}{fd:Zap}{ps:List Str}(F:Fun K x qual st f fd)
  (h:∀(kV doc pm:Ze)(an:Option Zj)(cdv ct:Ze)(us:List Ze),us.length=ps.length->ZdK (W.fnOf x qual (Qi st) (JG st) (Jy st) .none kV doc pm an cdv ct) ⟨us,[]⟩=pure (ps.zip us)):JI K fd ps []:=by
 obtain⟨oc,od,kV,doc,pm,an,cdv,ct,osl,rfl,lk,hcd⟩:=F.ex
 exact .all (h kV doc pm an cdv ct)
end
section
variable {X:Cx}
end
def Same (H H':Hp):Prop:=∀b o,H b=Za o->H' b=Za o
theorem Same.refl (H:Hp):Same H H:=λ _ _ h=>h
theorem Same.trans {H H1 H2:Hp}(a:Same H H1)(b:Same H1 H2):Same H H2:=λ c o h=>b c o (a c o h)
theorem Same.free {H H':Hp}(e:Same H H'){l:Zj}(h:H' l=Option.none):H l=Option.none:=by
 cases q:H l with
 | none=>rfl
 | some o =>
  rw[e l o q] at h
  cases h
theorem Same.seq {K:W.Frag}{H H':Hp}{a:Zj}{xs:List V}(e:Same H H')(h:SqL K H a xs):SqL K H' a xs:=by
 rcases h with(h|⟨o,h⟩)|h
 ·exact .inl (.inl (e _ _ h))
 ·exact .inl (.inr ⟨o,e _ _ h⟩)
 ·exact .inr h
end L2
set_option maxHeartbeats 4000000
namespace L3
open PySem PySem.Spec PyProof.Rows L2
inductive IV where
 | non|bl (b:Bool)|int (i:Int)|str (x:Str)|tup (xs:List IV)|rol (xs:List IV)|ref (i:Nat)
inductive IX where
 | lst (xs:List IV)
 | ins (c:Str) (fs:List (Str×IV))
 | dct (kvs:List (Key×IV))
 | exc (c:Str) (fs:List (Str×IV))
 | tab (q:Str)
 | hld (c:Str) (fs:List (Str×IV))
abbrev IH:=List IX
abbrev ISt:=List (Option IV)
inductive Res (α:Type) where
 | ok (a:α) (h:IH)|exc (n:Nat) (h:IH)|stuck
noncomputable def Res.bind {α β:Type}:Res α->(α->IH->Res β)->Res β
 | .ok a h,f=>f a h
 | .exc n h,_=>.exc n h
 | .stuck,_=>.stuck
inductive SRes where
 | next (σ:ISt) (h:IH)|ret (v:IV) (h:IH)|brk (σ:ISt) (h:IH)|cont (σ:ISt) (h:IH)|exc (n:Nat) (σ:ISt) (h:IH)|stuck
def SqR (K:W.Frag)(H:Hp)(a:Zj)(xs:List V):Prop :=
 (∃o,H a=Za (.frz o (.lst xs))) ∨
  ∃(o:Obj) (its:Array Ze) (n:Nat),K.lookup a=Za o/\o.cls=.type "list"/\o.dict=Zc/\o.data=.seq its n/\its.size<=sizeLine/\Vals xs its.toList
theorem SqR.sq {K:W.Frag}{H:Hp}{a:Zj}{xs:List V}(h:SqR K H a xs):SqL K H a xs:=by
 rcases h with⟨o,h⟩|h
 ·exact .inl (.inr ⟨o,h⟩)
 ·exact .inr h
mutual
def RV (K:W.Frag)(ι:List Zj)(H:Hp):IV->V->Prop
 | .non,v=>v=.non
 | .bl b,v=>v=.bl b
 | .int i,v=>v=.int i
 | .str x,v=>v=.str x
 | .tup xs,v=>∃a vs,v=.ref a/\SqT K H a vs/\RVs K ι H xs vs
 | .rol xs,v=>∃a vs,v=.ref a/\SqR K H a vs/\RVs K ι H xs vs
 | .ref i,v=>∃a,v=.ref a/\ι[i]?=Za a
def RVs (K:W.Frag)(ι:List Zj)(H:Hp):List IV->List V->Prop
 | [],vs=>vs=[]
 | x::xs,vs=>∃v r,vs=v::r/\RV K ι H x v/\RVs K ι H xs r
end
structure Ext (H H':Hp):Prop where
 tups:∀b xs,H b=Za (.tup xs)->H' b=Za (.tup xs)
 frzs:∀b o u,H b=Za (.frz o u)->H' b=Za (.frz o u)
structure Nxt (ι:List Zj)(H:Hp)(ι':List Zj)(H':Hp):Prop where
 pre:∃m,ι'=ι++m
 ext:Ext H H'
theorem Nxt.refl {ι:List Zj}{H:Hp}:Nxt ι H ι H:=⟨⟨[],by simp⟩,⟨λ _ _ h=>h,λ _ _ _ h=>h⟩⟩
theorem Nxt.trans {ι ι1 ι2:List Zj}{H H1 H2:Hp}(a:Nxt ι H ι1 H1)(b:Nxt ι1 H1 ι2 H2):Nxt ι H ι2 H2:=by
 obtain⟨⟨m,e⟩,x⟩:=a
 obtain⟨⟨m',e'⟩,y⟩:=b
 exact⟨⟨m++m',by rw[e',e,ZF]⟩,⟨λ b xs h=>y.tups b xs (x.tups b xs h),λ b o u h=>y.frzs b o u (x.frzs b o u h)⟩⟩
theorem Nxt.at {ι ι':List Zj}{H H':Hp}(n:Nxt ι H ι' H'){i:Nat}{a:Zj}(h:ι[i]?=Za a):ι'[i]?=Za a:=by
 obtain⟨⟨m,e⟩,_⟩:=n
 subst e
 rw[ZC (Zo.mp h).1]
 exact h
theorem Ext.rd {H H':Hp}(x:Ext H H'){a:Zj}{xs:List V}(h:Rd H a (.tup xs)):Rd H' a (.tup xs):=by
 rcases h with h|⟨o,h⟩
 ·exact .inl (x.tups _ _ h)
 ·exact .inr ⟨o,x.frzs _ _ _ h⟩
theorem Ext.sqT {K:W.Frag}{H H':Hp}(x:Ext H H'){a:Zj}{xs:List V}(h:SqT K H a xs):SqT K H' a xs:=by
 rcases h with h|h
 ·exact .inl (x.rd h)
 ·exact .inr h
theorem Ext.sqR {K:W.Frag}{H H':Hp}(x:Ext H H'){a:Zj}{xs:List V}(h:SqR K H a xs):SqR K H' a xs:=by
 rcases h with⟨o,h⟩|h
 ·exact .inl ⟨o,x.frzs _ _ _ h⟩
 ·exact .inr h
mutual
theorem RV.mono {K:W.Frag}{ι ι':List Zj}{H H':Hp}(n:Nxt ι H ι' H'):∀(x:IV)(v:V),RV K ι H x v->RV K ι' H' x v
 | .non,_,h=>h
 | .bl _,_,h=>h
 | .int _,_,h=>h
 | .str _,_,h=>h
 | .tup xs,_,h=>by
  obtain⟨a,vs,e,q,r⟩:=h
  exact⟨a,vs,e,n.ext.sqT q,RVs.mono n xs vs r⟩
 | .rol xs,_,h=>by
  obtain⟨a,vs,e,q,r⟩:=h
  exact⟨a,vs,e,n.ext.sqR q,RVs.mono n xs vs r⟩
 | .ref i,_,h=>by
  obtain⟨a,e,q⟩:=h
  exact⟨a,e,n.at q⟩
theorem RVs.mono {K:W.Frag}{ι ι':List Zj}{H H':Hp}(n:Nxt ι H ι' H'):∀(xs:List IV)(vs:List V),RVs K ι H xs vs->RVs K ι' H' xs vs
 | [],_,h=>h
 | x::xs,_,h=>by
  obtain⟨v,r,e,q,t⟩:=h
  exact⟨v,r,e,RV.mono n x v q,RVs.mono n xs r t⟩
end
theorem RVs.length {K:W.Frag}{ι:List Zj}{H:Hp}:∀{xs:List IV}{vs:List V},RVs K ι H xs vs->vs.length=xs.length
 | [],_,h=>by
  have e:_=[]:=h
  subst e
  rfl
 | x::xs,_,h=>by
  obtain⟨v,r,e,_,t⟩:=h
  subst e
  simp[RVs.length t]
theorem RVs.get {K:W.Frag}{ι:List Zj}{H:Hp}:∀{xs:List IV}{vs:List V}{i:Nat}{x:IV},RVs K ι H xs vs->xs[i]?=Za x->∃v,vs[i]?=Za v/\RV K ι H x v
 | [],_,_,_,_,e=>by simp at e
 | x::xs,_,0,y,h,e=>by
  obtain⟨v,r,e1,q,t⟩:=h
  subst e1
  simp at e
  subst e
  exact⟨v,rfl,q⟩
 | x::xs,_,i+1,y,h,e=>by
  obtain⟨v,r,e1,q,t⟩:=h
  subst e1
  obtain⟨u,h1,h2⟩:=RVs.get (i:=i) (x:=y) t (by simpa using e)
  exact⟨u,by simpa using h1,h2⟩
theorem RVs.get' {K:W.Frag}{ι:List Zj}{H:Hp}{xs:List IV}{vs:List V}{i:Nat}{v:V}(h:RVs K ι H xs vs)(e:vs[i]?=Za v):∃x,xs[i]?=Za x/\RV K ι H x v:=by
 have hl:=h.length
 have hi:i<vs.length:=(Zo.mp e).1
 have hx:xs[i]?=Za xs[i]:=Zb (by omega)
 obtain⟨u,h1,h2⟩:=h.get hx
 rw[e] at h1
 cases h1
 exact⟨_,hx,h2⟩
theorem RVs.append {K:W.Frag}{ι:List Zj}{H:Hp}:∀{xs ys:List IV}{vs us:List V},RVs K ι H xs vs->RVs K ι H ys us->RVs K ι H (xs++ys) (vs++us)
 | [],_,_,_,h,g=>by
  have e:_=[]:=h
  subst e
  exact g
 | x::xs,_,_,_,h,g=>by
  obtain⟨v,r,e,q,t⟩:=h
  subst e
  exact⟨v,_,rfl,q,RVs.append t g⟩
theorem RVs.take {K:W.Frag}{ι:List Zj}{H:Hp}:∀{xs:List IV}{vs:List V}(n:Nat),RVs K ι H xs vs->RVs K ι H (xs.take n) (vs.take n)
 | _,_,0,_=>by simp;exact rfl
 | [],_,n+1,h=>by
  have e:_=[]:=h
  subst e
  exact rfl
 | x::xs,_,n+1,h=>by
  obtain⟨v,r,e,q,t⟩:=h
  subst e
  exact⟨v,r.take n,rfl,q,RVs.take n t⟩
theorem RVs.drop {K:W.Frag}{ι:List Zj}{H:Hp}:∀{xs:List IV}{vs:List V}(n:Nat),RVs K ι H xs vs->RVs K ι H (xs.drop n) (vs.drop n)
 | _,_,0,h=>h
 | [],_,n+1,h=>by
  have e:_=[]:=h
  subst e
  exact rfl
 | x::xs,_,n+1,h=>by
  obtain⟨v,r,e,q,t⟩:=h
  subst e
  exact RVs.drop n t
theorem RVs.set {K:W.Frag}{ι:List Zj}{H:Hp}{x:IV}{v:V}(q:RV K ι H x v):∀{xs:List IV}{vs:List V}(i:Nat),RVs K ι H xs vs->RVs K ι H (xs.set i x) (vs.set i v)
 | [],_,_,h=>by
  have e:_=[]:=h
  subst e
  exact rfl
 | y::xs,_,0,h=>by
  obtain⟨u,r,e,_,t⟩:=h
  subst e
  exact⟨v,r,rfl,q,t⟩
 | y::xs,_,i+1,h=>by
  obtain⟨u,r,e,p,t⟩:=h
  subst e
  exact⟨u,r.set i v,rfl,p,RVs.set q i t⟩
theorem RVs.one {K:W.Frag}{ι:List Zj}{H:Hp}{x:IV}{v:V}(q:RV K ι H x v):RVs K ι H [x] [v]:=⟨v,[],rfl,q,rfl⟩
theorem RVs.rev {K:W.Frag}{ι:List Zj}{H:Hp}:∀{xs:List IV}{vs:List V},RVs K ι H xs vs->RVs K ι H xs.reverse vs.reverse
 | [],_,h=>by
  have e:_=[]:=h
  subst e
  exact rfl
 | x::xs,_,h=>by
  obtain⟨v,r,e,q,t⟩:=h
  subst e
  rw[ZcL,ZcL]
  exact RVs.append (RVs.rev t) (RVs.one q)
theorem RVs.eraseIdx {K:W.Frag}{ι:List Zj}{H:Hp}:∀{xs:List IV}{vs:List V}(i:Nat),RVs K ι H xs vs->RVs K ι H (xs.eraseIdx i) (vs.eraseIdx i)
 | [],_,_,h=>by
  have e:_=[]:=h
  subst e
  exact rfl
 | x::xs,_,0,h=>by
  obtain⟨v,r,e,q,t⟩:=h
  subst e
  exact t
 | x::xs,_,i+1,h=>by
  obtain⟨v,r,e,q,t⟩:=h
  subst e
  exact⟨v,r.eraseIdx i,rfl,q,RVs.eraseIdx i t⟩
theorem RVs.ints {K:W.Frag}{ι:List Zj}{H:Hp}:∀(ns:List Int),RVs K ι H (ns.map IV.int) (ns.map V.int)
 | []=>rfl
 | _::ns=>⟨_,_,rfl,rfl,RVs.ints ns⟩
def RPs {κ:Type}(K:W.Frag)(ι:List Zj)(H:Hp):List (κ×IV)->List (κ×V)->Prop
 | [],vs=>vs=[]
 | x::xs,vs=>∃v r,vs=(x.1,v)::r/\RV K ι H x.2 v/\RPs K ι H xs r
theorem RPs.mono {κ:Type}{K:W.Frag}{ι ι':List Zj}{H H':Hp}(n:Nxt ι H ι' H'):∀(xs:List (κ×IV))(vs:List (κ×V)),RPs K ι H xs vs->RPs K ι' H' xs vs
 | [],_,h=>h
 | x::xs,_,h=>by
  obtain⟨v,r,e,q,t⟩:=h
  exact⟨v,r,e,RV.mono n _ v q,RPs.mono n xs r t⟩
theorem RPs.length {κ:Type}{K:W.Frag}{ι:List Zj}{H:Hp}:∀{xs:List (κ×IV)}{vs:List (κ×V)},RPs K ι H xs vs->vs.length=xs.length
 | [],_,h=>by
  have e:_=[]:=h
  subst e
  rfl
 | x::xs,_,h=>by
  obtain⟨v,r,e,_,t⟩:=h
  subst e
  simp[RPs.length t]
theorem RPs.lookup {κ:Type}[BEq κ]{K:W.Frag}{ι:List Zj}{H:Hp}{f:κ}:∀{xs:List (κ×IV)}{vs:List (κ×V)},RPs K ι H xs vs ->
  (∀x,xs.lookup f=Za x->∃v,vs.lookup f=Za v/\RV K ι H x v)/\(xs.lookup f=Zc->vs.lookup f=Zc)
 | [],_,h=>by
  have e:_=[]:=h
  subst e
  exact⟨λ x e=>by simp at e,λ _=>rfl⟩
 | (k,x)::xs,_,h=>by
  obtain⟨v,r,e,q,t⟩:=h
  subst e
  have ih:=RPs.lookup (f:=f) t
  simp only[Zab]
  cases hb:f==k with
  | true=>exact⟨λ y e=>by cases e;exact⟨v,rfl,q⟩,λ e=>by cases e⟩
  | false=>exact ih
def Q7 (H:Hp)(q:Str)(cv:Ze):Prop:=∃c oc vs t,cv=.ref c/\H c=Za (.frz oc (.own 0))/\oc.data=.fields vs/\vs[1]?=Za (.str (q++".<locals>."++"<lambda>") t)
def TabO (K:W.Frag)(H:Hp)(q:Str)(a:Zj):Prop:=(∀cdv,W.codeIn K cdv q=Zd->∃c,cdv=.ref c/\W.codeHdIn K c a=Zd) /\
 ∃ps,H a=Za (.tbl ps)/\TriplesOk ps.toList/\∀pos cv,ZdN pos ps.toList=Za cv->Q7 H q cv
theorem TabO.mono {K:W.Frag}{H H':Hp}{q:Str}{a:Zj}(fz:∀b o u,H b=Za (.frz o u)->H' b=Za (.frz o u))(k:∀u,H a=Za u->H' a=Za u)(h:TabO K H q a):TabO K H' q a:=by
 obtain⟨h1,ps,e,ht,hc⟩:=h
 refine⟨h1,ps,k _ e,ht,λ pos cv q=>?_⟩
 obtain⟨c,oc,vs,t,e1,e2,r⟩:=hc pos cv q
 exact⟨c,oc,vs,t,e1,fz _ _ _ e2,r⟩
def ExF (a C:Zj)(tv:Ze)(d:Option Zj):HO:=.ext λ h=>∃oe vs,h.get? a=Za oe/\oe.cls=.ref C/\oe.data=.fields vs/\vs[1]?=Za tv/\vs[2]?=Za .none/\oe.dict=d
def XV (ι:List Zj):IV->Ze->Prop
 | .int i,u=>∃t,u=.int i t
 | .ref j,u=>∃b,u=.ref b/\ι[j]?=Za b
 | _,_=>False
def XdOk (ι:List Zj)(H:Hp)(d:Option Zj)(fs:List (Str×IV)):Prop:=(fs=[]/\d=Zc)∨∃f v dx od u,fs=[(f,v)]/\d=Za dx/\H dx=Za (.frz od (.own 0))/\W.lookIn f od=Za (Za u)/\XV ι v u
theorem XdOk.mono {ι:List Zj}{H H':Hp}{d:Option Zj}{fs:List (Str×IV)}(fz:∀b o u,H b=Za (.frz o u)->H' b=Za (.frz o u))(h:XdOk ι H d fs):XdOk ι H' d fs:=by
 rcases h with h|⟨f,i,dx,od,t,e,q,r,z⟩
 ·exact .inl h
 ·exact .inr ⟨f,i,dx,od,t,e,q,fz _ _ _ r,z⟩
theorem XdOk.nxt {ι ι':List Zj}{H H':Hp}{d:Option Zj}{fs:List (Str×IV)}(n:Nxt ι H ι' H')(h:XdOk ι H d fs):XdOk ι' H' d fs:=by
 rcases h with h|⟨f,v,dx,od,t,e,q,r,z,x⟩
 ·exact .inl h
 ·refine .inr ⟨f,v,dx,od,t,e,q,n.ext.frzs _ _ _ r,z,?_⟩
  cases v with
  | ref j =>
   obtain⟨b,e,q⟩:=x
   obtain⟨⟨m,rfl⟩,_⟩:=n
   exact⟨b,e,by rw[ZC (Zo.mp q).1];exact q⟩
  | _=>exact x
def TvOk (H:Hp)(tv:Ze):Prop:=tv=.none∨∃T oT ts,tv=.ref T/\H T=Za (.frz oT (.own 0))/\oT.data=.fields ts/\ts[3]?=Za .none
theorem TvOk.mono {H H':Hp}{tv:Ze}(fz:∀b o u,H b=Za (.frz o u)->H' b=Za (.frz o u))(h:TvOk H tv):TvOk H' tv:=by
 rcases h with h|⟨T,oT,ts,e,q,r⟩
 ·exact .inl h
 ·exact .inr ⟨T,oT,ts,e,fz _ _ _ q,r⟩
def RO (ce:CeT)(K:W.Frag)(ι:List Zj)(H:Hp)(a:Zj):IX->Prop
 | .lst xs=>∃vs,H a=Za (.lst vs)/\RVs K ι H xs vs
 | .ins c fs=>∃C dx vs,ce c=Za C/\H a=Za (.ins C dx vs)/\RPs K ι H fs vs
 | .dct kvs=>∃vs,H a=Za (.dK vs)/\RPs K ι H kvs vs
 | .exc c fs=>∃C tv d,XdOk ι H d fs/\W.nsIn K Zm c=Za (Za (.ref C))/\H a=Za (ExF a C tv d)/\TvOk H tv
 | .tab q=>TabO K H q a
 | .hld c fs=>∃C oe u vs,XdOk ι H oe.dict fs/\W.nsIn K Zm c=Za (Za (.ref C))/\H a=Za (.frz oe u)/\oe.cls=.ref C/\oe.data=.fields vs/\vs[2]?=Za .none
theorem RO.some {ce:CeT}{K:W.Frag}{ι:List Zj}{H:Hp}{a:Zj}{o:IX}(h:RO ce K ι H a o):∃u,H a=Za u:=by
 cases o with
 | lst xs=>obtain⟨vs,e,_⟩:=h;exact⟨_,e⟩
 | ins c fs=>obtain⟨_,_,vs,_,e,_⟩:=h;exact⟨_,e⟩
 | dct kvs=>obtain⟨vs,e,_⟩:=h;exact⟨_,e⟩
 | exc c fs=>obtain⟨C,tv,d,_,_,e,_⟩:=h;exact⟨_,e⟩
 | tab q=>obtain⟨_,ps,e,_⟩:=h;exact⟨_,e⟩
 | hld c fs=>obtain⟨_,_,_,_,_,_,e,_⟩:=h;exact⟨_,e⟩
theorem RO.mono {ce:CeT}{K:W.Frag}{ι ι':List Zj}{H H':Hp}{a:Zj}{o:IX}(n:Nxt ι H ι' H')(k:∀u,H a=Za u->H' a=Za u)(h:RO ce K ι H a o):RO ce K ι' H' a o:=by
 cases o with
 | lst xs=>obtain⟨vs,e,r⟩:=h;exact⟨vs,k _ e,RVs.mono n _ _ r⟩
 | ins c fs=>obtain⟨C,dx,vs,c1,e,r⟩:=h;exact⟨C,dx,vs,c1,k _ e,RPs.mono n _ _ r⟩
 | dct kvs=>obtain⟨vs,e,r⟩:=h;exact⟨vs,k _ e,RPs.mono n _ _ r⟩
 | exc c fs=>obtain⟨C,tv,d,e0,c1,e,r⟩:=h;exact⟨C,tv,d,e0.nxt n,c1,k _ e,r.mono n.ext.frzs⟩
 | tab q=>exact TabO.mono n.ext.frzs k h
 | hld c fs=>obtain⟨C,oe,u,vs,e0,c1,e,r⟩:=h;exact⟨C,oe,u,vs,e0.nxt n,c1,k _ e,r⟩
structure Rel (ce:CeT)(K:W.Frag)(ι:List Zj)(h:IH)(H:Hp):Prop where
 len:ι.length=h.length
 nd:ι.Nodup
 at_:∀(i:Nat)(o:IX),h[i]?=Za o->∃a,ι[i]?=Za a/\RO ce K ι H a o
section
variable {ce:CeT}{K:W.Frag}{ι:List Zj}{h:IH}{H:Hp}
theorem Rel.some (R:Rel ce K ι h H){i:Nat}{a:Zj}(e:ι[i]?=Za a):∃u,H a=Za u:=by
 have hi:i<h.length:=by rw[<- R.len];exact(Zo.mp e).1
 obtain⟨b,e',r⟩:=R.at_ i _ (Zb hi)
 rw[e] at e'
 cases e'
 exact r.some
theorem Rel.notin (R:Rel ce K ι h H){l:Zj}(e:H l=Zc):l∉ι:=λ hl=>by
 obtain⟨i,hi,q⟩:=Zaw.mp hl
 obtain⟨u,hu⟩:=R.some (i:=i) (a:=l) (by rw[Zb hi,q])
 rw[e] at hu
 cases hu
theorem Ext.upd_new {l:Zj}{o:HO}(e:H l=Zc):Ext H (upd H l o) :=
 ⟨λ b xs q=>by rw[Jl (QR q e)];exact q,λ b o u q=>by rw[Jl (QR q e)];exact q⟩
theorem Rel.grow {l:Zj}{o:HO}(R:Rel ce K ι h H)(e:H l=Zc):Rel ce K ι h (upd H l o)/\Nxt ι H ι (upd H l o):=by
 have n:Nxt ι H ι (upd H l o):=⟨⟨[],by simp⟩,Ext.upd_new e⟩
 refine⟨⟨R.len,R.nd,λ i u q=>?_⟩,n⟩
 obtain⟨a,e1,r⟩:=R.at_ i u q
 exact⟨a,e1,r.mono n λ w hw=>by rw[Jl (QR hw e)];exact hw⟩
theorem Rel.alloc {l:Zj}{o:HO}{io:IX}(R:Rel ce K ι h H)(e:H l=Zc)(r:RO ce K (ι++[l]) (upd H l o) l io):Rel ce K (ι++[l]) (h++[io]) (upd H l o)/\Nxt ι H (ι++[l]) (upd H l o):=by
 have n:Nxt ι H (ι++[l]) (upd H l o):=⟨⟨[l],rfl⟩,Ext.upd_new e⟩
 refine⟨⟨by simp[R.len],?_,λ i u q=>?_⟩,n⟩
 ·rw[Zav]
  refine⟨R.nd,by simp,λ a ha b hb=>?_⟩
  have:b=l:=by simpa using hb
  subst this
  rintro rfl
  exact R.notin e ha
 ·by_cases hi:i<h.length
  ·rw[ZC hi] at q
   obtain⟨a,e1,r1⟩:=R.at_ i u q
   exact⟨a,n.at e1,r1.mono n λ w hw=>by rw[Jl (QR hw e)];exact hw⟩
  ·have hi2:i=h.length:=by
    have:=(Zo.mp q).1
    simp at this
    omega
   subst hi2
   rw[Z4 (Zr _)] at q
   simp at q
   subst q
   refine⟨l,?_,r⟩
   rw[<- R.len,Z4 (Zr _)]
   simp
theorem Rel.inj (R:Rel ce K ι h H){i j:Nat}{a:Zj}(e1:ι[i]?=Za a)(e2:ι[j]?=Za a):i=j:=by
 obtain⟨h1,q1⟩:=Zo.mp e1
 obtain⟨h2,q2⟩:=Zo.mp e2
 exact(ZdI R.nd).mp (q1.trans q2.symm)
theorem Ext.upd_mut {l:Zj}{o u:HO}(e:H l=Za u)(m:Mut (H l)):Ext H (upd H l o):=by
 refine⟨λ b xs q=>?_,λ b ob w q=>?_⟩
 ·by_cases hb:b=l
  ·subst hb
   rw[q] at m
   exact Zf m
  ·rw[Jl hb];exact q
 ·by_cases hb:b=l
  ·subst hb
   rw[q] at m
   exact Zf m
  ·rw[Jl hb];exact q
theorem Rel.write {i:Nat}{a:Zj}{o u:HO}{io:IX}(R:Rel ce K ι h H)(e:ι[i]?=Za a)(ha:H a=Za u)(m:Mut (H a))(r:RO ce K ι (upd H a o) a io):Rel ce K ι (h.set i io) (upd H a o)/\Nxt ι H ι (upd H a o):=by
 have n:Nxt ι H ι (upd H a o):=⟨⟨[],by simp⟩,Ext.upd_mut ha m⟩
 refine⟨⟨by simp[R.len],R.nd,λ j w q=>?_⟩,n⟩
 by_cases hj:j=i
 ·subst hj
  have hl:j<h.length:=by
   have:=(Zo.mp q).1
   simpa using this
  rw[ZU hl] at q
  cases q
  exact⟨a,e,r⟩
 ·rw[ZX (ZT hj)] at q
  obtain⟨b,e1,r1⟩:=R.at_ j w q
  refine⟨b,e1,r1.mono n λ v hv=>?_⟩
  have:b≠a:=by
   rintro rfl
   exact hj (R.inj e1 e)
  rw[Jl this]
  exact hv
end
structure RSt (K:W.Frag)(ι:List Zj)(H:Hp)(σi:ISt)(σ:L2.St):Prop where
 len:σi.length=σ.length
 at_:∀(j:Nat)(v:IV),σi[j]?=Za (Za v)->∃u,σ[j]?=Za (Za u)/\RV K ι H v u
theorem RSt.mono {K:W.Frag}{ι ι':List Zj}{H H':Hp}{σi:ISt}{σ:L2.St}(n:Nxt ι H ι' H')(r:RSt K ι H σi σ):RSt K ι' H' σi σ :=
 ⟨r.len,λ j v e=>let ⟨u,e1,q⟩:=r.at_ j v e;⟨u,e1,RV.mono n _ _ q⟩⟩
theorem RSt.set {K:W.Frag}{ι:List Zj}{H:Hp}{σi:ISt}{σ:L2.St}(r:RSt K ι H σi σ)(i:Nat){x:IV}{v:V}(q:RV K ι H x v):RSt K ι H (σi.set i (Za x)) (σ.set i (Za v)):=by
 refine⟨by simp[r.len],λ j w e=>?_⟩
 by_cases hj:j=i
 ·subst hj
  have hl:j<σi.length:=by
   have:=(Zo.mp e).1
   simpa using this
  rw[ZU hl] at e
  cases e
  exact⟨v,by rw[ZU (by rw[<- r.len];exact hl)],q⟩
 ·rw[ZX (ZT hj)] at e
  obtain⟨u,e1,q1⟩:=r.at_ j w e
  exact⟨u,by rw[ZX (ZT hj)];exact e1,q1⟩
structure Now (ce:CeT)(X:Cx)(pj:PnT)(ι:List Zj)(σi:ISt)(h:IH)(σ:L2.St)(H:Hp)(s:Zk):Prop where
 inv:Inv X pj σ H s
 rel:Rel ce X.K ι h H
 st:RSt X.K ι H σi σ
def RU (K:W.Frag)(ι:List Zj)(H:Hp)(v:IV)(u:Ze):Prop:=∃x,RelV x u/\RV K ι H v x
theorem RU.mono {K:W.Frag}{ι ι':List Zj}{H H':Hp}{v:IV}{u:Ze}(n:Nxt ι H ι' H')(r:RU K ι H v u):RU K ι' H' v u :=
 let ⟨x,a,b⟩:=r;⟨x,a,RV.mono n _ _ b⟩
def RUs (K:W.Frag)(ι:List Zj)(H:Hp)(vs:List IV)(us:List Ze):Prop:=∃xs,Vals xs us/\RVs K ι H vs xs
theorem RUs.mono {K:W.Frag}{ι ι':List Zj}{H H':Hp}{v:List IV}{u:List Ze}(n:Nxt ι H ι' H')(r:RUs K ι H v u):RUs K ι' H' v u :=
 let ⟨x,a,b⟩:=r;⟨x,a,RVs.mono n _ _ b⟩
abbrev REL (α β:Type):=W.Frag->List Zj->Hp->α->β->Prop
def RB:REL Bool Bool:=λ _ _ _ b c=>c=b
section
variable {α β γ δ:Type}
def Kont (ce:CeT)(X:Cx)(R:REL α β)(pj:PnT)(ι:List Zj)(σi:ISt)(σ:L2.St)(H:Hp)(r:Res α)(Q:β->Zk->Prop)(E:QvT):Prop :=
 match r with
 | .ok v h'=>∀u s' H' ι',Now ce X pj ι' σi h' σ H' s'->Nxt ι H ι' H'->R X.K ι' H' v u->Q u s'
 | .exc n h'=>∀pl a s' H' ι',Now ce X (pj++pl) ι' σi h' σ H' s'->Nxt ι H ι' H'->ι'[n]?=Za a->E (.ref a) s'
 | .stuck=>False
variable {ce:CeT}{X:Cx}{R:REL α β}{R':REL γ δ}{pj:PnT}{ι ι':List Zj}{σi:ISt}{σ:L2.St}{H H':Hp}
theorem Kont.mono {r:Res α}{Q:β->Zk->Prop}{E:QvT}(k:Kont ce X R pj ι σi σ H r Q E)(n:Nxt ι H ι' H'):Kont ce X R pj ι' σi σ H' r Q E:=by
 cases r with
 | ok v h'=>exact λ u s' H2 ι2 N n2 q=>k u s' H2 ι2 N (n.trans n2) q
 | exc m h'=>exact λ pl a s' H2 ι2 N n2 q=>k pl a s' H2 ι2 N (n.trans n2) q
 | stuck=>exact k
def PX (ce:CeT)(X:Cx)(R:REL α β)(t:Sem β)(m:ISt->IH->Res α):Prop :=
 ∀(pj:PnT)(s:Zk)(σ:L2.St)(H:Hp)(ι:List Zj)(σi:ISt)(h:IH)(Q:β->Zk->Prop)(E:QvT),Now ce X pj ι σi h σ H s->Kont ce X R pj ι σi σ H (m σi h) Q E ->
  Zt (Z3 X.prog X.w) X.A t Q E s
theorem PX.run {t:Sem β}{m:ISt->IH->Res α}(p:PX ce X R t m){s:Zk}{h:IH}(N:Now ce X pj ι σi h σ H s){g:α->IH->Res γ}{Q:δ->Zk->Prop}{E:QvT}{Q1:β->Zk->Prop}
  (K:Kont ce X R' pj ι σi σ H ((m σi h).bind g) Q E)
  (step:∀x h1 u s1 H1 ι1,Now ce X pj ι1 σi h1 σ H1 s1->Nxt ι H ι1 H1->R X.K ι1 H1 x u->Kont ce X R' pj ι1 σi σ H1 (g x h1) Q E->Q1 u s1):Zt (Z3 X.prog X.w) X.A t Q1 E s:=by
 refine p pj s σ H ι σi h Q1 E N ?_
 cases e:m σi h with
 | ok v h' =>
  rw[e] at K
  exact λ u s' H' ι' N' n' r=>step v h' u s' H' ι' N' n' r (Kont.mono (r:=g v h') K n')
 | exc n h' =>
  rw[e] at K
  exact K
 | stuck =>
  rw[e] at K
  exact K
end
abbrev PEi (ce:CeT)(X:Cx)(e:Expr)(m:ISt->IH->Res IV):Prop:=PX ce X RU (ZaQ e X.env) m
abbrev PTi (ce:CeT)(X:Cx)(e:Expr)(m:ISt->IH->Res Bool):Prop:=PX ce X RB (Ze3 e X.env (ZaQ e X.env)) m
def PWi (ce:CeT)(X:Cx)(e:Expr)(m:ISt->IH->Res Bool):Prop:=∀whole:Sem Ze,PX ce X RB (Ze3 e X.env whole) m
def PAi (ce:CeT)(X:Cx)(es:List Expr)(m:ISt->IH->Res (List IV)):Prop:=∀pos:Pos,PX ce X RUs (spliced (ZaX pos (Z9 es X.env))) m
abbrev E1:=ISt->IH->Res IV
abbrev T1:=ISt->IH->Res Bool
abbrev A1:=ISt->IH->Res (List IV)
noncomputable def Ja (i:Nat):E1:=λ σ h=>match σ[i]? with|some (Za v)=>.ok v h|_=>.stuck
noncomputable def eC (v:IV):E1:=λ _ h=>.ok v h
def Jc (f:IV->IV->IH->Res IV)(a b:E1):E1:=λ σ h=>(a σ h).bind λ x h1=>(b σ h1).bind λ y h2=>f x y h2
def eUn (f:IV->IH->Res IV)(a:E1):E1:=λ σ h=>(a σ h).bind λ x h1=>f x h1
def eAnd (a b:E1)(tr:IV->IH->Res Bool):E1:=λ σ h=>(a σ h).bind λ x h1=>(tr x h1).bind λ c h2=>if c then b σ h2 else .ok x h2
def eOr (a b:E1)(tr:IV->IH->Res Bool):E1:=λ σ h=>(a σ h).bind λ x h1=>(tr x h1).bind λ c h2=>if c then .ok x h2 else b σ h2
def eIf (t:T1)(a b:E1):E1:=λ σ h=>(t σ h).bind λ c h1=>if c then a σ h1 else b σ h1
def Xr (a b:T1):T1:=λ σ h=>(a σ h).bind λ c h1=>if c then b σ h1 else .ok Zh h1
def tOrI (a b:T1):T1:=λ σ h=>(a σ h).bind λ c h1=>if c then .ok Zd h1 else b σ h1
def JA (a:T1):T1:=λ σ h=>(a σ h).bind λ c h1=>.ok (!c) h1
def Ji (tr:IV->IH->Res Bool)(a:E1):T1:=λ σ h=>(a σ h).bind λ x h1=>tr x h1
noncomputable def Jd:A1:=λ _ h=>.ok [] h
def Jb (a:E1)(r:A1):A1:=λ σ h=>(a σ h).bind λ x h1=>(r σ h1).bind λ xs h2=>.ok (x::xs) h2
def Q9 (f g:IV->IV->IH->Res IV)(a b c:E1):E1:=λ σ h=>(a σ h).bind λ x h1=>(b σ h1).bind λ y h2=>(f x y h2).bind λ k h3 =>
 match k with
 | .bl Zd=>(c σ h3).bind λ z h4=>g y z h4
 | .bl Zh=>.ok (.bl Zh) h3
 | _=>.stuck
section
variable {ce:CeT}{X:Cx}{a b c:Expr}{ma mb mc:E1}{pos:Pos}
def OpI (ce:CeT)(X:Cx)(f:Ze->Ze->Sem Ze)(g:IV->IV->IH->Res IV):Prop :=
 ∀(pj:PnT)(s:Zk)(σ:L2.St)(H:Hp)(ι:List Zj)(σi:ISt)(h:IH)(x y:IV)(v u:Ze)(Q:QvT)(E:QvT),Now ce X pj ι σi h σ H s->RU X.K ι H x v->RU X.K ι H y u ->
  Kont ce X RU pj ι σi σ H (g x y h) Q E->Zt (Z3 X.prog X.w) X.A (f v u) Q E s
def UnI (ce:CeT)(X:Cx)(f:Ze->Sem Ze)(g:IV->IH->Res IV):Prop :=
 ∀(pj:PnT)(s:Zk)(σ:L2.St)(H:Hp)(ι:List Zj)(σi:ISt)(h:IH)(x:IV)(v:Ze)(Q:QvT)(E:QvT),Now ce X pj ι σi h σ H s->RU X.K ι H x v ->
  Kont ce X RU pj ι σi σ H (g x h) Q E->Zt (Z3 X.prog X.w) X.A (f v) Q E s
def TrI (ce:CeT)(X:Cx)(g:IV->IH->Res Bool):Prop :=
 ∀(pj:PnT)(s:Zk)(σ:L2.St)(H:Hp)(ι:List Zj)(σi:ISt)(h:IH)(x:IV)(v:Ze)(Q:Bool->Zk->Prop)(E:QvT),Now ce X pj ι σi h σ H s->RU X.K ι H x v ->
  Kont ce X RB pj ι σi σ H (g x h) Q E->Zt (Z3 X.prog X.w) X.A (truthy v) Q E s
def Q6 (ce:CeT)(X:Cx)(f:Ze)(g:List IV->IH->Res IV):Prop :=
 ∀(pj:PnT)(s:Zk)(σ:L2.St)(H:Hp)(ι:List Zj)(σi:ISt)(h:IH)(xs:List IV)(us:List Ze)(Q:QvT)(E:QvT),Now ce X pj ι σi h σ H s->RUs X.K ι H xs us ->
  Kont ce X RU pj ι σi σ H (g xs h) Q E->Zt (Z3 X.prog X.w) X.A (call f us) Q E s
theorem Xt {pj:PnT}{s:Zk}{σ:L2.St}{H:Hp}{Q:QvT}{E:QvT}{e:Expr}{t:TE}(p:PE (X.wish E) e t)(I:Inv X pj σ H s)
  (k:t σ H λ z H'=>∀u s',Inv X pj σ H' s'->RelV z u->Q u s'):Zt (Z3 X.prog X.w) X.A (ZaQ e X.env) Q E s :=
 ZP (p pj s σ H _ (I.wish E) k) (λ u s' ⟨_,_,I',r,q⟩=>q u s' I'.unwish r) λ _ _ z=>z
theorem JU {pj:PnT}{s:Zk}{σ:L2.St}{H:Hp}{Q:QvT}{E:QvT}{f:Ze->Ze->Sem Ze}{r:R2}{x y:V}{v u:Ze}(p:OpR (X.wish E) f r)(I:Inv X pj σ H s)(rx:RelV x v)(ry:RelV y u)
  (k:r x y H λ z H'=>∀u s',Inv X pj σ H' s'->RelV z u->Q u s'):Zt (Z3 X.prog X.w) X.A (f v u) Q E s :=
 ZP (p pj s σ H x y v u _ (I.wish E) rx ry k) (λ u s' ⟨_,_,I',r,q⟩=>q u s' I'.unwish r) λ _ _ z=>z
theorem J1b {pj:PnT}{s:Zk}{σ:L2.St}{H:Hp}{Q:QvT}{E:QvT}{f:Ze->Sem Ze}{r:V->Hp->VK->Prop}{x:V}{v:Ze}(p:UnR (X.wish E) f r)(I:Inv X pj σ H s)(rx:RelV x v)
  (k:r x H λ z H'=>∀u s',Inv X pj σ H' s'->RelV z u->Q u s'):Zt (Z3 X.prog X.w) X.A (f v) Q E s :=
 ZP (p pj s σ H x v _ (I.wish E) rx k) (λ u s' ⟨_,_,I',r,q⟩=>q u s' I'.unwish r) λ _ _ z=>z
theorem V5 {pj:PnT}{s:Zk}{σ:L2.St}{H:Hp}{Q:Bool->Zk->Prop}{E:QvT}{r:V->Hp->(Bool->Hp->Prop)->Prop}{x:V}{v:Ze}(p:TruR (X.wish E) r)(I:Inv X pj σ H s)(rx:RelV x v)
  (k:r x H λ z H'=>∀s',Inv X pj σ H' s'->Q z s'):Zt (Z3 X.prog X.w) X.A (truthy v) Q E s :=
 ZP (p pj s σ H x v _ (I.wish E) rx k) (λ _ s' ⟨_,I',q⟩=>q s' I'.unwish) λ _ _ z=>z
theorem QG {pj:PnT}{s:Zk}{σ:L2.St}{H:Hp}{Q:QvT}{E:QvT}{f:Ze}{r:List V->Hp->VK->Prop}{xs:List V}{us:List Ze}(p:VW (X.wish E) f r)(I:Inv X pj σ H s)(rx:Vals xs us)
  (k:r xs H λ z H'=>∀u s',Inv X pj σ H' s'->RelV z u->Q u s'):Zt (Z3 X.prog X.w) X.A (call f us) Q E s :=
 ZP (p pj s σ H xs us _ (I.wish E) rx k) (λ u s' ⟨_,_,I',r,q⟩=>q u s' I'.unwish r) λ _ _ z=>z
theorem Jwp (i:Nat){x:Str}{pos:Pos}(hN:X.N[i]?=Za x:=by rfl)(hv:Vis X.env.scope x:=by assumption)(hd:(x==("__debug__":Str))=Zh:=by decide)
  (hcd:(x==("__classdict__":Str))=Zh:=by decide):PEi ce X (.Name x pos) (Ja i):=by
 intro pj s σ H ι σi h Q E N K
 unfold Ja at K
 cases e:σi[i]? with
 | none =>
  rw[e] at K
  exact Zf K
 | some o =>
  cases o with
  | none =>
   rw[e] at K
   exact Zf K
  | some v =>
   rw[e] at K
   obtain⟨u,e1,q⟩:=N.st.at_ i v e
   exact Xt (J0n (X:=X.wish E) hN hv hd hcd) N.inv ⟨u,e1,λ u' s' I' r'=>K u' s' H ι ⟨I',N.rel,N.st⟩ .refl ⟨u,r',q⟩⟩
theorem Jzg {i j pos}:PEi ce X (.Constant (.int i) j pos) (eC (.int i)):=λ _ _ _ H ι _ _ _ E N K=>Xt (J0k (X:=X.wish E)) N.inv λ u' s' I' r'=>K u' s' H ι ⟨I',N.rel,N.st⟩ .refl ⟨_,r',rfl⟩
theorem i_bl {i j pos}:PEi ce X (.Constant (.bool i) j pos) (eC (.bl i)):=λ _ _ _ H ι _ _ _ E N K=>Xt (J2n (X:=X.wish E)) N.inv λ u' s' I' r'=>K u' s' H ι ⟨I',N.rel,N.st⟩ .refl ⟨_,r',rfl⟩
theorem Jzn {j pos}:PEi ce X (.Constant .none j pos) (eC .non):=λ _ _ _ H ι _ _ _ E N K=>Xt (J0l (X:=X.wish E)) N.inv λ u' s' I' r'=>K u' s' H ι ⟨I',N.rel,N.st⟩ .refl ⟨_,r',rfl⟩
theorem Jzp {i j pos}:PEi ce X (.Constant (.str i) j pos) (eC (.str i)):=λ _ _ _ H ι _ _ _ E N K=>Xt (J0m (X:=X.wish E)) N.inv λ u' s' I' r'=>K u' s' H ι ⟨I',N.rel,N.st⟩ .refl ⟨_,r',rfl⟩
theorem Jzf {x:Str}{v:V}{iv:IV}{u:Ze}{pos:Pos}(hg:Gl X x)(hm:X.mg x=Za u)(r:RelV v u)(q:∀ι H,RV X.K ι H iv v)(hd:(x==("__debug__":Str))=Zh:=by decide):PEi ce X (.Name x pos) (eC iv) :=
 λ _ _ _ H ι _ _ _ E N K=>Xt (Jxb (X:=X.wish E) hg hm r hd) N.inv λ u' s' I' r'=>K u' s' H ι ⟨I',N.rel,N.st⟩ .refl ⟨_,r',q _ _⟩
theorem Jza {op:Operator}{f:IV->IV->IH->Res IV}(ho:OpI ce X (ZaT op) f)(ha:PEi ce X a ma)(hb:PEi ce X b mb):PEi ce X (.BinOp a op b pos) (Jc f ma mb) :=
 λ pj s σ H ι σi h Q E N K=>wpAny_BinOp (ha.run N K λ x h1 u s1 H1 ι1 N1 n1 r1 K1=>hb.run N1 K1 λ y h2 w s2 H2 ι2 N2 n2 r2 K2=>ho pj s2 σ H2 ι2 σi h2 x y u w Q E N2 (r1.mono n2) r2 K2)
theorem i_un {op:UnaryOp}{f:IV->IH->Res IV}(ho:UnI ce X (unaryOp op) f)(ha:PEi ce X a ma):PEi ce X (.UnaryOp op a pos) (eUn f ma) :=
 λ pj s σ H ι σi h Q E N K=>UnaryOp_ (ha.run N K λ x h1 u s1 H1 ι1 N1 n1 r1 K1=>ho pj s1 σ H1 ι1 σi h1 x u Q E N1 r1 K1)
theorem Jzc {op:CmpOp}{f:IV->IV->IH->Res IV}(ho:OpI ce X (Zan op) f)(ha:PEi ce X a ma)(hb:PEi ce X b mb)(hm:Zbj op b=Zh:=by assumption):PEi ce X (.Compare a [op] [b] pos) (Jc f ma mb) :=
 λ pj s σ H ι σi h Q E N K=>wpAny_Compare1 (ha.run N K λ x h1 u s1 H1 ι1 N1 n1 r1 K1=>hb.run N1 K1 λ y h2 w s2 H2 ι2 N2 n2 r2 K2=>ho pj s2 σ H2 ι2 σi h2 x y u w Q E N2 (r1.mono n2) r2 K2) hm
noncomputable def asB:IV->IH->Res Bool
 | .bl b,h=>.ok b h
 | _,_=>.stuck
theorem Kont.asB {pj:PnT}{σ:L2.St}{H:Hp}{ι:List Zj}{σi:ISt}{r:Res IV}{Q:Bool->Zk->Prop}{E:QvT}(K:Kont ce X RB pj ι σi σ H (r.bind asB) Q E) :
  Kont ce X RU pj ι σi σ H r (λ v s=>Zt (Z3 X.prog X.w) X.A (truthy v) Q E s) E:=by
 cases r with
 | exc n h=>exact K
 | stuck=>exact K
 | ok v h =>
  intro u s' H' ι' N n q
  obtain⟨x,rx,q⟩:=q
  cases v with
  | bl b =>
   have e:x=.bl b:=q
   subst e
   cases rx
   exact Zbo (K b s' H' ι' N n rfl)
  | _=>exact Zf K
theorem Res.bind_bind {α β γ:Type}(r:Res α)(f:α->IH->Res β)(g:β->IH->Res γ):(r.bind f).bind g=r.bind λ x h=>(f x h).bind g:=by
 cases r<;>rfl
theorem J02 {op:CmpOp}{f:IV->IV->IH->Res IV}(ho:OpI ce X (Zan op) f)(ha:PEi ce X a ma)(hb:PEi ce X b mb)(hm:Zbj op b=Zh:=by assumption):PTi ce X (.Compare a [op] [b] pos) (Ji asB (Jc f ma mb)) :=
 λ pj s σ H ι σi h Q E N K=>by
  have K':Kont ce X RB pj ι σi σ H ((ma σi h).bind λ x h1=>(mb σi h1).bind λ y h2=>(f x y h2).bind asB) Q E:=by
   unfold Ji Jc at K
   rw[Res.bind_bind] at K
   simp only[Res.bind_bind] at K
   exact K
  exact wpAny_isTrue_Compare1 (ha.run N K' λ x h1 u s1 H1 ι1 N1 n1 r1 K1=>hb.run N1 K1 λ y h2 w s2 H2 ι2 N2 n2 r2 K2=>ho pj s2 σ H2 ι2 σi h2 x y u w _ E N2 (r1.mono n2) r2 (Kont.asB K2)) hm
theorem Jtz {tr:IV->IH->Res Bool}(ht:TrI ce X tr)(ha:PEi ce X a ma)(he:∀whole,Ze3 a X.env whole=(do let v<-whole;ZeF a.pos;Zdb [v] (truthy v)):=by intro _;rfl):PTi ce X a (Ji tr ma) :=
 λ pj s σ H ι σi h Q E N K=>isTrue_plain (ha.run N K λ x h1 u s1 H1 ι1 N1 n1 r1 K1=>ht pj s1 σ H1 ι1 σi h1 x u Q E N1 r1 K1) (he _)
variable {rest:List Expr}{ta tb:T1}
theorem Jxy (ha:PTi ce X a ta):PWi ce X (.BoolOp .And [a] pos) ta:=λ wh pj s σ H ι σi h Q E N K=>by
 refine isTrue_and (ha pj s σ H ι σi h _ E N ?_)
 cases e:ta σi h with
 | ok v h' =>
  rw[e] at K
  intro u s' H' ι' N' n' r
  have r':u=v:=r
  subst r'
  cases u with
  | true=>exact isTrue_and_nil (K Zd s' H' ι' N' n' rfl)
  | false=>exact K Zh s' H' ι' N' n' rfl
 | exc n h'=>rw[e] at K;exact K
 | stuck=>rw[e] at K;exact K
theorem J06 (ha:PTi ce X a ta):PWi ce X (.BoolOp .Or [a] pos) ta:=λ wh pj s σ H ι σi h Q E N K=>by
 refine isTrue_or (ha pj s σ H ι σi h _ E N ?_)
 cases e:ta σi h with
 | ok v h' =>
  rw[e] at K
  intro u s' H' ι' N' n' r
  have r':u=v:=r
  subst r'
  cases u with
  | false=>exact isTrue_or_nil (K Zh s' H' ι' N' n' rfl)
  | true=>exact K Zd s' H' ι' N' n' rfl
 | exc n h'=>rw[e] at K;exact K
 | stuck=>rw[e] at K;exact K
theorem J05 (ha:PTi ce X a ta)(hb:PWi ce X (.BoolOp .And (b::rest) pos) tb):PWi ce X (.BoolOp .And (a::b::rest) pos) (Xr ta tb):=λ wh pj s σ H ι σi h Q E N K =>
 isTrue_and (ha.run N K λ c h1 u s1 H1 ι1 N1 n1 r1 K1=>by
  have r':u=c:=r1
  subst r'
  cases u with
  | true=>exact hb wh pj s1 σ H1 ι1 σi h1 Q E N1 K1
  | false=>exact K1 Zh s1 H1 ι1 N1 .refl rfl)
theorem J2w (ha:PTi ce X a ta)(hb:PWi ce X (.BoolOp .Or (b::rest) pos) tb):PWi ce X (.BoolOp .Or (a::b::rest) pos) (tOrI ta tb):=λ wh pj s σ H ι σi h Q E N K =>
 isTrue_or (ha.run N K λ c h1 u s1 H1 ι1 N1 n1 r1 K1=>by
  have r':u=c:=r1
  subst r'
  cases u with
  | false=>exact hb wh pj s1 σ H1 ι1 σi h1 Q E N1 K1
  | true=>exact K1 Zd s1 H1 ι1 N1 .refl rfl)
theorem PWi.t (h:PWi ce X a ta):PTi ce X a ta:=h _
theorem J03 (ha:PTi ce X a ta):PTi ce X (.UnaryOp .Not a pos) (JA ta):=λ pj s σ H ι σi h Q E N K =>
 isTrue_not (ha.run N K λ c h1 u s1 H1 ι1 N1 n1 r1 K1=>by
  have r':u=c:=r1
  subst r'
  exact K1 (!u) s1 H1 ι1 N1 .refl rfl)
theorem Jzo {op}(h:PEi ce X a ma):PEi ce X (.BoolOp op [a] pos) ma:=λ pj s σ H ι σi h' Q E N K=>BoolOp_one (h pj s σ H ι σi h' Q E N K)
theorem J11 {tr:IV->IH->Res Bool}(ht:TrI ce X tr)(ha:PEi ce X a ma)(hb:PEi ce X (.BoolOp .And (b::rest) pos) mb):PEi ce X (.BoolOp .And (a::b::rest) pos) (eAnd ma mb tr):=λ pj s σ H ι σi h Q E N K =>
 BoolOp_and (ha.run N K λ x h1 u s1 H1 ι1 N1 n1 r1 K1=>by
  refine ht pj s1 σ H1 ι1 σi h1 x u _ E N1 r1 ?_
  cases e:tr x h1 with
  | ok c h2 =>
   rw[e] at K1
   intro d s2 H2 ι2 N2 n2 r2
   have r':d=c:=r2
   subst r'
   have K2:=Kont.mono (r:=if d=Zd then mb σi h2 else .ok x h2) K1 n2
   cases d with
   | true=>exact hb pj s2 σ H2 ι2 σi h2 Q E N2 K2
   | false=>exact K2 u s2 H2 ι2 N2 .refl (r1.mono n2)
  | exc n h'=>rw[e] at K1;exact K1
  | stuck=>rw[e] at K1;exact K1)
theorem i_or {tr:IV->IH->Res Bool}(ht:TrI ce X tr)(ha:PEi ce X a ma)(hb:PEi ce X (.BoolOp .Or (b::rest) pos) mb):PEi ce X (.BoolOp .Or (a::b::rest) pos) (eOr ma mb tr):=λ pj s σ H ι σi h Q E N K =>
 BoolOp_or (ha.run N K λ x h1 u s1 H1 ι1 N1 n1 r1 K1=>by
  refine ht pj s1 σ H1 ι1 σi h1 x u _ E N1 r1 ?_
  cases e:tr x h1 with
  | ok c h2 =>
   rw[e] at K1
   intro d s2 H2 ι2 N2 n2 r2
   have r':d=c:=r2
   subst r'
   have K2:=Kont.mono (r:=if d=Zd then .ok x h2 else mb σi h2) K1 n2
   cases d with
   | false=>exact hb pj s2 σ H2 ι2 σi h2 Q E N2 K2
   | true=>exact K2 u s2 H2 ι2 N2 .refl (r1.mono n2)
  | exc n h'=>rw[e] at K1;exact K1
  | stuck=>rw[e] at K1;exact K1)
def Vz (tr:IV->IH->Res Bool):IV->IH->Res IV:=λ x h=>(tr x h).bind λ c h1=>.ok (.bl (!c)) h1
theorem Jxz {tr:IV->IH->Res Bool}(ht:TrI ce X tr):UnI ce X (unaryOp .Not) (Vz tr):=λ pj s σ H ι σi h x v Q E N r K=>by
 refine not_of (ht pj s σ H ι σi h x v _ E N r ?_)
 unfold Vz at K
 cases e:tr x h with
 | ok c h2 =>
  rw[e] at K
  intro d s2 H2 ι2 N2 n2 r2
  have r':d=c:=r2
  subst r'
  exact K _ s2 H2 ι2 N2 n2 ⟨.bl (!d),rfl,rfl⟩
 | exc n h'=>rw[e] at K;exact K
 | stuck=>rw[e] at K;exact K
theorem Jwi {t:Expr}{mt:T1}(ht:PTi ce X t mt)(ha:PEi ce X a ma)(hb:PEi ce X b mb):PEi ce X (.IfExp t a b pos) (eIf mt ma mb):=λ pj s σ H ι σi h Q E N K =>
 wpAny_IfExp (ht.run N K λ c h1 u s1 H1 ι1 N1 n1 r1 K1=>by
  have r':u=c:=r1
  subst r'
  cases u with
  | true=>exact ha pj s1 σ H1 ι1 σi h1 Q E N1 K1
  | false=>exact hb pj s1 σ H1 ι1 σi h1 Q E N1 K1)
theorem Jwg {op op':CmpOp}{f g:IV->IV->IH->Res IV}(ho:OpI ce X (Zan op) f)(ho':OpI ce X (Zan op') g)(ha:PEi ce X a ma)(hb:PEi ce X b mb)(hc:PEi ce X c mc)
  (hm:ZdO [op,op'] [b,c]=Zh:=by with_unfolding_all rfl):PEi ce X (.Compare a [op,op'] [b,c] pos) (Q9 f g ma mb mc):=λ pj s σ H ι σi h Q E N K =>
 Compare_chain (ha.run N K λ x h1 u s1 H1 ι1 N1 n1 r1 K1=>chain_link (hb.run N1 K1 λ y h2 w s2 H2 ι2 N2 n2 r2 K2=>by
  refine ho pj s2 σ H2 ι2 σi h2 x y u w _ E N2 (r1.mono n2) r2 ?_
  cases e:f x y h2 with
  | exc n h'=>rw[e] at K2;exact K2
  | stuck=>rw[e] at K2;exact K2
  | ok k h3 =>
   rw[e] at K2
   intro d s3 H3 ι3 N3 n3 r3
   obtain⟨z,rz,q⟩:=r3
   cases k with
   | bl k =>
    have e':z=.bl k:=q
    subst e'
    cases rz
    refine Zbo ?_
    have K3:=Kont.mono (r:=match IV.bl k with|.bl Zd=>(mc σi h3).bind λ z h4=>g y z h4|.bl Zh=>.ok (.bl Zh) h3|_=>.stuck) K2 n3
    cases k with
    | false=>exact ite_ff (K3 _ s3 H3 ι3 N3 .refl ⟨.bl Zh,rfl,rfl⟩)
    | true=>exact ite_tt (chain_last (hc.run N3 K3 λ z h4 w' s4 H4 ι4 N4 n4 r4 K4=>ho' pj s4 σ H4 ι4 σi h4 y z w w' Q E N4 ((r2.mono n3).mono n4) r4 K4))
   | _=>exact Zf K2)) hm
theorem Jxv {op op':CmpOp}{f g:IV->IV->IH->Res IV}(ho:OpI ce X (Zan op) f)(ho':OpI ce X (Zan op') g)(ha:PEi ce X a ma)(hb:PEi ce X b mb)(hc:PEi ce X c mc)
  (hm:ZdO [op,op'] [b,c]=Zh:=by with_unfolding_all rfl):PTi ce X (.Compare a [op,op'] [b,c] pos) (Ji asB (Q9 f g ma mb mc)):=λ pj s σ H ι σi h Q E N K=>by
 have K':Kont ce X RB pj ι σi σ H ((ma σi h).bind λ x h1=>(mb σi h1).bind λ y h2=>(f x y h2).bind λ k h3=>(match k with|.bl Zd=>(mc σi h3).bind λ z h4=>g y z h4|.bl Zh=>.ok (.bl Zh) h3|_=>.stuck:Res IV).bind asB) Q E:=by
  unfold Ji Q9 at K
  rw[Res.bind_bind] at K
  simp only[Res.bind_bind] at K
  exact K
 refine isTrue_chain (ha.run N K' λ x h1 u s1 H1 ι1 N1 n1 r1 K1=>test_link (hb.run N1 K1 λ y h2 w s2 H2 ι2 N2 n2 r2 K2=>?_)) hm
 refine ho pj s2 σ H2 ι2 σi h2 x y u w _ E N2 (r1.mono n2) r2 ?_
 cases e:f x y h2 with
 | exc n h'=>rw[e] at K2;exact K2
 | stuck=>rw[e] at K2;exact K2
 | ok k h3 =>
  rw[e] at K2
  intro d s3 H3 ι3 N3 n3 r3
  obtain⟨z,rz,q⟩:=r3
  cases k with
  | bl k =>
   have e':z=.bl k:=q
   subst e'
   cases rz
   refine Zbo ?_
   have K3:=Kont.mono (r:=(match IV.bl k with|.bl Zd=>(mc σi h3).bind λ z h4=>g y z h4|.bl Zh=>.ok (.bl Zh) h3|_=>.stuck:Res IV).bind asB) K2 n3
   cases k with
   | false=>exact ite_ff (K3 _ s3 H3 ι3 N3 .refl rfl)
   | true =>
    have K3':Kont ce X RB pj ι3 σi σ H3 ((mc σi h3).bind λ z h4=>(g y z h4).bind asB) Q E:=by
     have:=K3
     dsimp only at this
     rw[Res.bind_bind] at this
     exact this
    exact ite_tt (test_last (hc.run N3 K3' λ z h4 w' s4 H4 ι4 N4 n4 r4 K4=>ho' pj s4 σ H4 ι4 σi h4 y z w w' _ E N4 ((r2.mono n3).mono n4) r4 (Kont.asB K4)))
  | _=>exact Zf K2
variable {es:List Expr}{mr:A1}
theorem RUs.nil {K:W.Frag}{ι:List Zj}{H:Hp}:RUs K ι H [] []:=⟨[],.nil,rfl⟩
theorem RUs.cons {K:W.Frag}{ι:List Zj}{H:Hp}{x:IV}{u:Ze}{xs:List IV}{us:List Ze}(a:RU K ι H x u)(b:RUs K ι H xs us):RUs K ι H (x::xs) (u::us) :=
 let ⟨v,r,q⟩:=a;let ⟨vs,rs,qs⟩:=b;⟨v::vs,.cons r rs,v,vs,rfl,q,qs⟩
theorem Qc:PAi ce X [] Jd:=λ _ pj s σ H ι σi h Q E N K=>Calls.spliced_nil (K [] s H ι N .refl .nil)
theorem Qa (ha:PEi ce X a ma)(hr:PAi ce X es mr)(hs:Z9 (a::es) X.env=(Zh,ZaQ a X.env)::Z9 es X.env:=by rfl):PAi ce X (a::es) (Jb ma mr):=by
 intro pos pj s σ H ι σi h Q E N K
 rw[hs]
 show Zt _ _ (spliced ((Zh,ZaQ a X.env)::ZaX pos (Z9 es X.env))) _ _ s
 exact Zdw (ha.run N K λ x h1 u s1 H1 ι1 N1 n1 r1 K1=>(hr pos).run N1 K1 λ xs h2 us s2 H2 ι2 N2 n2 r2 K2=>K2 _ s2 H2 ι2 N2 .refl (.cons (r1.mono n2) r2))
end
noncomputable def Jo:IV->IV->IH->Res IV
 | .int i,.int j,h=>.ok (.int (i+j)) h
 | .str x,.str y,h=>if x.length+y.length<=sizeLine then .ok (.str (x++y)) h else .stuck
 | .ref i,.ref j,h=>match h[i]?,h[j]? with
  | some (.lst xs),Za (.lst ys)=>if xs.length+ys.length<=sizeLine then .ok (.ref h.length) (h++[.lst (xs++ys)]) else .stuck
  | _,_=>.stuck
 | .tup xs,.tup ys,h=>if xs≠[]/\ys≠[]/\xs.length+ys.length<=sizeLine then .ok (.tup (xs++ys)) h else .stuck
 | _,_,_=>.stuck
noncomputable def JN:IV->IV->IH->Res IV
 | .int i,.int j,h=>.ok (.int (i-j)) h
 | _,_,_=>.stuck
def Qt (i j:Int):Prop:=i.natAbs<2^64∨j.natAbs<2^64∨(i.natAbs.log2<1048576/\j.natAbs.log2<1048576)
instance (i j:Int):Decidable (Qt i j):=by unfold Qt;exact inferInstance
def Xj:IV->IV->IH->Res IV
 | .int i,.int j,h=>if Qt i j then .ok (.int (i*j)) h else .stuck
 | .ref i,.int k,h=>match h[i]? with
  | some (.lst xs)=>if -(2^63)<=k/\k<2^63/\xs.length*k.toNat<=sizeLine then .ok (.ref h.length) (h++[.lst (ZO k.toNat xs).flatten]) else .stuck
  | _=>.stuck
 | _,_,_=>.stuck
def JJ:IV->IV->IH->Res IV
 | .int i,.int j,h=>if 0<j/\j.natAbs.log2<9000 then .ok (.int (i/j)) h else .stuck
 | _,_,_=>.stuck
def J7:IV->IV->IH->Res IV
 | .int i,.int j,h=>if 0<j then .ok (.int (i%j)) h else .stuck
 | _,_,_=>.stuck
def JM:IV->IV->IH->Res IV
 | .int i,.int j,h=>if 0<=j/\j<=1000000/\i.natAbs<2^64 then .ok (.int (i^j.toNat)) h else .stuck
 | _,_,_=>.stuck
noncomputable def Jw6:IV->IH->Res IV
 | .int i,h=>.ok (.int (-i)) h
 | _,_=>.stuck
section
variable {ce:CeT}{X:Cx}
theorem fin0 {pj:PnT}{s:Zk}{σ:L2.St}{H:Hp}{ι:List Zj}{σi:ISt}{h:IH}{v:IV}{w:V}{Q:QvT}{E:QvT}(N:Now ce X pj ι σi h σ H s)(K:Kont ce X RU pj ι σi σ H (.ok v h) Q E)
  (q:RV X.K ι H v w):∀u s',Inv X pj σ H s'->RelV w u->Q u s':=λ u s' I r=>K u s' H ι ⟨I,N.rel,N.st⟩ .refl ⟨w,r,q⟩
theorem finA {pj:PnT}{s:Zk}{σ:L2.St}{H:Hp}{ι:List Zj}{σi:ISt}{h:IH}{io:IX}{o:HO}{Q:QvT}{E:QvT}(N:Now ce X pj ι σi h σ H s)
  (K:Kont ce X RU pj ι σi σ H (.ok (.ref h.length) (h++[io])) Q E)(l:Zj)(e:H l=Zc)(r:RO ce X.K (ι++[l]) (upd H l o) l io):∀u s',Inv X pj σ (upd H l o) s'->RelV (.ref l) u->Q u s':=λ u s' I ru=>by
 obtain⟨R,n⟩:=N.rel.alloc e r
 refine K u s' _ _ ⟨I,R,N.st.mono n⟩ n ⟨.ref l,ru,l,rfl,?_⟩
 rw[<- N.rel.len,Z4 (Zr _)]
 simp
theorem finT {pj:PnT}{s:Zk}{σ:L2.St}{H:Hp}{ι:List Zj}{σi:ISt}{h:IH}{xs:List IV}{vs:List V}{Q:QvT}{E:QvT}(N:Now ce X pj ι σi h σ H s)
  (K:Kont ce X RU pj ι σi σ H (.ok (.tup xs) h) Q E)(l:Zj)(e:H l=Zc)(r:RVs X.K ι H xs vs):∀u s',Inv X pj σ (upd H l (.tup vs)) s'->RelV (.ref l) u->Q u s':=λ u s' I ru=>by
 obtain⟨R,n⟩:=N.rel.grow (o:=.tup vs) e
 exact K u s' _ _ ⟨I,R,N.st.mono n⟩ n ⟨.ref l,ru,l,vs,rfl,SqT.of Jw,RVs.mono n _ _ r⟩
theorem RVs.new {K:W.Frag}{ι:List Zj}{H:Hp}{l:Zj}{o:HO}(e:H l=Zc){xs:List IV}{vs:List V}(r:RVs K ι H xs vs):RVs K (ι++[l]) (upd H l o) xs vs:=RVs.mono ⟨⟨[l],rfl⟩,Ext.upd_new e⟩ _ _ r
theorem Now.at {pj:PnT}{s:Zk}{σ:L2.St}{H:Hp}{ι:List Zj}{σi:ISt}{h:IH}(N:Now ce X pj ι σi h σ H s){i:Nat}{o:IX}(e:h[i]?=Za o){a:Zj}(ha:ι[i]?=Za a):RO ce X.K ι H a o:=by
 obtain⟨b,e1,r⟩:=N.rel.at_ i o e
 rw[ha] at e1
 cases e1
 exact r
theorem J2b:OpI ce X (ZaT .Add) Jo:=by
 intro pj s σ H ι σi h x y v u Q E N rx ry K
 obtain⟨xv,rx,qx⟩:=rx
 obtain⟨yv,ry,qy⟩:=ry
 cases x with
 | int i =>
  cases y with
  | int j =>
   have e1:xv=.int i:=qx
   have e2:yv=.int j:=qy
   subst e1 e2
   exact JU (J0b (X:=X.wish E)) N.inv rx ry ⟨i,j,rfl,rfl,fin0 N K rfl⟩
  | _=>exact Zf K
 | str i =>
  cases y with
  | str j =>
   have e1:xv=.str i:=qx
   have e2:yv=.str j:=qy
   subst e1 e2
   dsimp only[Jo] at K
   split at K
   ·rename_i hz
    exact JU (Jns (X:=X.wish E)) N.inv rx ry ⟨i,j,rfl,rfl,hz,fin0 N K rfl⟩
   ·exact Zf K
  | _=>exact Zf K
 | tup xs =>
  cases y with
  | tup ys =>
   obtain⟨a,vs,e1,sa,ra⟩:=qx
   obtain⟨b,ws,e2,sb,rb⟩:=qy
   subst e1 e2
   dsimp only[Jo] at K
   split at K
   ·rename_i hz
    obtain⟨h1,h2,h3⟩:=hz
    have n1:vs≠[]:=λ z=>h1 (by have:=ra.length;rw[z] at this;exact ZaN this.symm)
    have n2:ws≠[]:=λ z=>h2 (by have:=rb.length;rw[z] at this;exact ZaN this.symm)
    exact JU (Jw7 (X:=X.wish E)) N.inv rx ry ⟨a,b,vs,ws,rfl,rfl,sa,sb,n1,by rw[ra.length,rb.length];exact h3,λ z=>absurd z n2,λ _ p hp=>finT N K p hp (ra.append rb)⟩
   ·exact Zf K
  | _=>exact Zf K
 | ref i =>
  cases y with
  | ref j =>
   obtain⟨a,e1,ha⟩:=qx
   obtain⟨b,e2,hb⟩:=qy
   subst e1 e2
   dsimp only[Jo] at K
   cases hi:h[i]? with
   | none=>rw[hi] at K;exact Zf K
   | some oi =>
    cases hj:h[j]? with
    | none=>rw[hi,hj] at K;cases oi<;>exact Zf K
    | some oj =>
     rw[hi,hj] at K
     cases oi with
     | lst xs =>
      cases oj with
      | lst ys =>
       dsimp only at K
       split at K
       ·rename_i hz
        obtain⟨vs,e1,r1⟩:=N.at hi ha
        obtain⟨ws,e2,r2⟩:=N.at hj hb
        exact JU (J0c (X:=X.wish E)) N.inv rx ry ⟨a,b,vs,ws,rfl,rfl,e1,e2,by rw[r1.length,r2.length];exact hz,λ p hp=>finA N K p hp ⟨_,Jw,RVs.new hp (r1.append r2)⟩⟩
       ·exact Zf K
      | _=>exact Zf K
     | _=>exact Zf K
  | _=>exact Zf K
 | _=>cases y<;>exact Zf K
theorem J2g:OpI ce X (ZaT .Sub) JN:=by
 intro pj s σ H ι σi h x y v u Q E N rx ry K
 obtain⟨xv,rx,qx⟩:=rx
 obtain⟨yv,ry,qy⟩:=ry
 cases x with
 | int i =>
  cases y with
  | int j =>
   have e1:xv=.int i:=qx
   have e2:yv=.int j:=qy
   subst e1 e2
   exact JU (J0g (X:=X.wish E)) N.inv rx ry ⟨i,j,rfl,rfl,fin0 N K rfl⟩
  | _=>exact Zf K
 | _=>cases y<;>exact Zf K
theorem Qt.ok {i j:Int}(h:Qt i j):IntMulOk i j:=by
 rcases h with h|h|⟨h1,h2⟩
 ·exact .of_left (Zd9 (by omega) (by omega))
 ·exact .of_right (Zd9 (by omega) (by omega))
 ·refine .of_bits ?_ ?_
  ·unfold Builtin.Int.intBits
   split
   ·exact Zaa _
   ·have:(2:Nat)^20=1048576:=by decide
    omega
  ·unfold Builtin.Int.intBits
   split
   ·exact Zaa _
   ·have:(2:Nat)^20=1048576:=by decide
    omega
theorem Jw8:OpR X (ZaT .Mult) (rI Qt λ i j=>.int (i*j)):=opI λ _ _ _ _ _ _ _ hc q=>mul_int q hc.ok
theorem J2e:OpI ce X (ZaT .Mult) Xj:=by
 intro pj s σ H ι σi h x y v u Q E N rx ry K
 obtain⟨xv,rx,qx⟩:=rx
 obtain⟨yv,ry,qy⟩:=ry
 cases x with
 | int i =>
  cases y with
  | int j =>
   have e1:xv=.int i:=qx
   have e2:yv=.int j:=qy
   subst e1 e2
   dsimp only[Xj] at K
   split at K
   ·rename_i hz
    exact JU (Jw8 (X:=X.wish E)) N.inv rx ry ⟨i,j,rfl,rfl,hz,fin0 N K rfl⟩
   ·exact Zf K
  | _=>exact Zf K
 | ref i =>
  cases y with
  | int k =>
   obtain⟨a,e1,ha⟩:=qx
   have e2:yv=.int k:=qy
   subst e1 e2
   dsimp only[Xj] at K
   cases hi:h[i]? with
   | none=>rw[hi] at K;exact Zf K
   | some oi =>
    rw[hi] at K
    cases oi with
    | lst xs =>
     dsimp only at K
     split at K
     ·rename_i hz
      obtain⟨vs,e1,r1⟩:=N.at hi ha
      have rr:∀n:Nat,RVs X.K ι H (ZO n xs).flatten (ZO n vs).flatten:=λ n=>by
       induction n with
       | zero=>exact rfl
       | succ n ih =>
        rw[Zbc,Zbc,ZbD,ZbD]
        exact r1.append ih
      exact JU (J0f (X:=X.wish E)) N.inv rx ry ⟨a,k,vs,rfl,rfl,e1,hz.1,hz.2.1,by rw[r1.length];exact hz.2.2,λ p hp=>finA N K p hp ⟨_,Jw,RVs.new hp (rr _)⟩⟩
     ·exact Zf K
    | _=>exact Zf K
  | _=>exact Zf K
 | _=>cases y<;>exact Zf K
theorem Js8:OpR X (ZaT .FloorDiv) (rI (λ _ j=>0<j/\j.natAbs.log2<9000) λ i j=>.int (i/j)):=opI λ i j _ _ _ _ _ hc q=>by
 have h1:(0:Int)<j:=hc.1
 exact floordiv_int (by omega) (by rw[Int.fdiv_eq_ediv_of_nonneg i (by omega)];exact q) (.inl (PyProof.noPylong_of_log2 hc.2))
theorem Jz9:OpI ce X (ZaT .FloorDiv) JJ:=by
 intro pj s σ H ι σi h x y v u Q E N rx ry K
 obtain⟨xv,rx,qx⟩:=rx
 obtain⟨yv,ry,qy⟩:=ry
 cases x with
 | int i =>
  cases y with
  | int j =>
   have e1:xv=.int i:=qx
   have e2:yv=.int j:=qy
   subst e1 e2
   dsimp only[JJ] at K
   split at K
   ·rename_i hz
    exact JU (Js8 (X:=X.wish E)) N.inv rx ry ⟨i,j,rfl,rfl,hz,fin0 N K rfl⟩
   ·exact Zf K
  | _=>exact Zf K
 | _=>cases y<;>exact Zf K
theorem J2d:OpI ce X (ZaT .Mod) J7:=by
 intro pj s σ H ι σi h x y v u Q E N rx ry K
 obtain⟨xv,rx,qx⟩:=rx
 obtain⟨yv,ry,qy⟩:=ry
 cases x with
 | int i =>
  cases y with
  | int j =>
   have e1:xv=.int i:=qx
   have e2:yv=.int j:=qy
   subst e1 e2
   dsimp only[J7] at K
   split at K
   ·rename_i hz
    exact JU (J0d (X:=X.wish E)) N.inv rx ry ⟨i,j,rfl,rfl,hz,fin0 N K rfl⟩
   ·exact Zf K
  | _=>exact Zf K
 | _=>cases y<;>exact Zf K
theorem J2f:OpI ce X (ZaT .Pow) JM:=by
 intro pj s σ H ι σi h x y v u Q E N rx ry K
 obtain⟨xv,rx,qx⟩:=rx
 obtain⟨yv,ry,qy⟩:=ry
 cases x with
 | int i =>
  cases y with
  | int j =>
   have e1:xv=.int i:=qx
   have e2:yv=.int j:=qy
   subst e1 e2
   dsimp only[JM] at K
   split at K
   ·rename_i hz
    exact JU (J0e (X:=X.wish E)) N.inv rx ry ⟨i,j,rfl,rfl,hz,fin0 N K rfl⟩
   ·exact Zf K
  | _=>exact Zf K
 | _=>cases y<;>exact Zf K
theorem J2x:UnI ce X (unaryOp .USub) Jw6:=by
 intro pj s σ H ι σi h x v Q E N rx K
 obtain⟨xv,rx,qx⟩:=rx
 cases x with
 | int i =>
  have e1:xv=.int i:=qx
  subst e1
  exact J1b (J08 (X:=X.wish E)) N.inv rx ⟨i,rfl,fin0 N K rfl⟩
 | _=>exact Zf K
noncomputable def cLt:IV->IV->IH->Res IV
 | .int i,.int j,h=>.ok (.bl (decide (i<j))) h
 | .str x,.str y,h=>.ok (.bl (decide (x.cps.toList<y.cps.toList))) h
 | _,_,_=>.stuck
noncomputable def cLe:IV->IV->IH->Res IV
 | .int i,.int j,h=>.ok (.bl (decide (i<=j))) h
 | .str x,.str y,h=>.ok (.bl (!decide (y.cps.toList<x.cps.toList))) h
 | _,_,_=>.stuck
noncomputable def cGt:IV->IV->IH->Res IV
 | .int i,.int j,h=>.ok (.bl (decide (j<i))) h
 | _,_,_=>.stuck
noncomputable def cGe:IV->IV->IH->Res IV
 | .int i,.int j,h=>.ok (.bl (decide (j<=i))) h
 | _,_,_=>.stuck
theorem o_lt:OpI ce X (Zan .Lt) cLt:=by
 intro pj s σ H ι σi h x y v u Q E N rx ry K
 obtain⟨xv,rx,qx⟩:=rx
 obtain⟨yv,ry,qy⟩:=ry
 cases x with
 | int i =>
  cases y with
  | int j =>
   have e1:xv=.int i:=qx
   have e2:yv=.int j:=qy
   subst e1 e2
   exact JU (J2l (X:=X.wish E)) N.inv rx ry ⟨i,j,rfl,rfl,fin0 N K rfl⟩
  | _=>exact Zf K
 | str i =>
  cases y with
  | str j =>
   have e1:xv=.str i:=qx
   have e2:yv=.str j:=qy
   subst e1 e2
   exact JU (Jqc (X:=X.wish E)) N.inv rx ry ⟨i,j,rfl,rfl,fin0 N K rfl⟩
  | _=>exact Zf K
 | _=>cases y<;>exact Zf K
theorem o_le:OpI ce X (Zan .LtE) cLe:=by
 intro pj s σ H ι σi h x y v u Q E N rx ry K
 obtain⟨xv,rx,qx⟩:=rx
 obtain⟨yv,ry,qy⟩:=ry
 cases x with
 | int i =>
  cases y with
  | int j =>
   have e1:xv=.int i:=qx
   have e2:yv=.int j:=qy
   subst e1 e2
   exact JU (J2k (X:=X.wish E)) N.inv rx ry ⟨i,j,rfl,rfl,fin0 N K rfl⟩
  | _=>exact Zf K
 | str i =>
  cases y with
  | str j =>
   have e1:xv=.str i:=qx
   have e2:yv=.str j:=qy
   subst e1 e2
   obtain⟨t,rfl⟩:=rx
   obtain⟨t',rfl⟩:=ry
   exact PySem.P.le_str (fin0 N K rfl _ s N.inv rfl)
  | _=>exact Zf K
 | _=>cases y<;>exact Zf K
theorem o_gt:OpI ce X (Zan .Gt) cGt:=by
 intro pj s σ H ι σi h x y v u Q E N rx ry K
 obtain⟨xv,rx,qx⟩:=rx
 obtain⟨yv,ry,qy⟩:=ry
 cases x with
 | int i =>
  cases y with
  | int j =>
   have e1:xv=.int i:=qx
   have e2:yv=.int j:=qy
   subst e1 e2
   exact JU (J2j (X:=X.wish E)) N.inv rx ry ⟨i,j,rfl,rfl,fin0 N K rfl⟩
  | _=>exact Zf K
 | _=>cases y<;>exact Zf K
theorem o_ge:OpI ce X (Zan .GtE) cGe:=by
 intro pj s σ H ι σi h x y v u Q E N rx ry K
 obtain⟨xv,rx,qx⟩:=rx
 obtain⟨yv,ry,qy⟩:=ry
 cases x with
 | int i =>
  cases y with
  | int j =>
   have e1:xv=.int i:=qx
   have e2:yv=.int j:=qy
   subst e1 e2
   exact JU (J2i (X:=X.wish E)) N.inv rx ry ⟨i,j,rfl,rfl,fin0 N K rfl⟩
  | _=>exact Zf K
 | _=>cases y<;>exact Zf K
noncomputable def tru:IV->IH->Res Bool
 | .non,h=>.ok Zh h
 | .bl b,h=>.ok b h
 | .int i,h=>.ok (i != 0) h
 | .str x,h=>if x.length<=sizeLine then .ok ((x.length:Int) != 0) h else .stuck
 | .tup xs,h=>.ok (!xs.isEmpty) h
 | .rol xs,h=>.ok (!xs.isEmpty) h
 | .ref i,h=>match h[i]? with
  | some (.lst xs)=>.ok (!xs.isEmpty) h
  | some (.dct kvs)=>.ok (!kvs.isEmpty) h
  | _=>.stuck
theorem RVs.empty {K:W.Frag}{ι:List Zj}{H:Hp}{xs:List IV}{vs:List V}(r:RVs K ι H xs vs):vs.isEmpty=xs.isEmpty:=by
 have:=r.length
 cases xs<;>cases vs<;>simp_all
theorem RPs.empty {κ:Type}{K:W.Frag}{ι:List Zj}{H:Hp}{xs:List (κ×IV)}{vs:List (κ×V)}(r:RPs K ι H xs vs):vs.isEmpty=xs.isEmpty:=by
 have:=r.length
 cases xs<;>cases vs<;>simp_all
theorem finB {pj:PnT}{s:Zk}{σ:L2.St}{H:Hp}{ι:List Zj}{σi:ISt}{h:IH}{c:Bool}{Q:Bool->Zk->Prop}{E:QvT}(N:Now ce X pj ι σi h σ H s)(K:Kont ce X RB pj ι σi σ H (.ok c h) Q E) :
  ∀s',Inv X pj σ H s'->Q c s':=λ s' I=>K c s' H ι ⟨I,N.rel,N.st⟩ .refl rfl
theorem VM:TrI ce X tru:=by
 intro pj s σ H ι σi h x v Q E N rx K
 obtain⟨xv,rx,qx⟩:=rx
 cases x with
 | non =>
  have e1:xv=.non:=qx
  subst e1
  exact V5 (V4 (X:=X.wish E)) N.inv rx ⟨_,rfl,finB N K⟩
 | bl b =>
  have e1:xv=.bl b:=qx
  subst e1
  exact V5 (V4 (X:=X.wish E)) N.inv rx ⟨_,rfl,finB N K⟩
 | int i =>
  have e1:xv=.int i:=qx
  subst e1
  exact V5 (V4 (X:=X.wish E)) N.inv rx ⟨_,rfl,finB N K⟩
 | str y =>
  have e1:xv=.str y:=qx
  subst e1
  dsimp only[tru] at K
  split at K
  ·rename_i hz
   exact V5 (V4 (X:=X.wish E)) N.inv rx ⟨_,⟨hz,rfl⟩,finB N K⟩
  ·exact Zf K
 | tup xs =>
  obtain⟨a,vs,e1,sa,ra⟩:=qx
  subst e1
  exact V5 (V4 (X:=X.wish E)) N.inv rx ⟨!xs.isEmpty,.inr (.inl ⟨vs,sa,by rw[ra.empty]⟩),finB N K⟩
 | rol xs =>
  obtain⟨a,vs,e1,sa,ra⟩:=qx
  subst e1
  exact V5 (V4 (X:=X.wish E)) N.inv rx ⟨!xs.isEmpty,.inl ⟨vs,sa.sq,by rw[ra.empty]⟩,finB N K⟩
 | ref i =>
  obtain⟨a,e1,ha⟩:=qx
  subst e1
  dsimp only[tru] at K
  cases hi:h[i]? with
  | none=>rw[hi] at K;exact Zf K
  | some oi =>
   rw[hi] at K
   cases oi with
   | lst xs =>
    obtain⟨vs,e1,r1⟩:=N.at hi ha
    exact V5 (V4 (X:=X.wish E)) N.inv rx ⟨!xs.isEmpty,.inl ⟨vs,SqL.of e1,by rw[r1.empty]⟩,finB N K⟩
   | dct kvs =>
    obtain⟨vs,e1,r1⟩:=N.at hi ha
    exact V5 (V4 (X:=X.wish E)) N.inv rx ⟨!kvs.isEmpty,.inr (.inr ⟨vs,e1,by rw[r1.empty]⟩),finB N K⟩
   | _=>exact Zf K
def eTup (a:A1):E1:=λ σ h=>(a σ h).bind λ xs h1=>if xs.length<=sizeLine then .ok (.tup xs) h1 else .stuck
def eLst (a:A1):E1:=λ σ h=>(a σ h).bind λ xs h1=>if xs.length<=sizeLine then .ok (.ref h1.length) (h1++[.lst xs]) else .stuck
variable {es:List Expr}{mr:A1}{pos:Pos}
theorem Jzq {x1}(hr:PAi ce X es mr):PEi ce X (.Tuple es x1 pos) (eTup mr):=λ pj s σ H ι σi h Q E N K=>by
 refine wpAny_Tuple_spliced ((hr pos).run N K λ xs h1 us s1 H1 ι1 N1 n1 r1 K1=>?_)
 change Kont ce X RU pj ι1 σi σ H1 (if xs.length<=sizeLine then _ else _) Q E at K1
 split at K1
 ·rename_i hz
  obtain⟨vs,rv,qs⟩:=r1
  have hl:=rv.length
  have hl2:=qs.length
  have hf:H1 s1.heap.objs.size=Zc:=N1.inv.hok.fresh (Zr _)
  refine⟨by rw[<- hl,hl2];exact hz,?_⟩
  exact finT N1 K1 s1.heap.objs.size hf qs _ _ (N1.inv.laid (t':=s1.toks) (λ b u e=>Zi _ e) (Zr _) ⟨by rw[hl2];exact hz,us,rv,⟨_,Z1 _ rfl,rfl,_,rfl⟩⟩) rfl
 ·exact Zf K1
theorem Jzi (hr:PAi ce X es mr):PEi ce X (.List es pos) (eLst mr):=λ pj s σ H ι σi h Q E N K=>by
 refine wpAny_List_spliced ((hr pos).run N K λ xs h1 us s1 H1 ι1 N1 n1 r1 K1=>?_)
 change Kont ce X RU pj ι1 σi σ H1 (if xs.length<=sizeLine then _ else _) Q E at K1
 split at K1
 ·rename_i hz
  obtain⟨vs,rv,qs⟩:=r1
  have hl:=rv.length
  have hl2:=qs.length
  have hf:H1 s1.heap.objs.size=Zc:=N1.inv.hok.fresh (Zr _)
  refine⟨by rw[<- hl,hl2];exact hz,?_⟩
  exact finA N1 K1 s1.heap.objs.size hf ⟨_,Jw,RVs.new hf qs⟩ _ _ (N1.inv.laid (t':=s1.toks) (λ b u e=>Zi _ e) (Zr _) ⟨by rw[hl2];exact hz,us,0,rv,Z1 _ rfl⟩) rfl
 ·exact Zf K1
end
section
variable {prog:ZA}{w:ZM}{A:ZG}{E:QvT}{s:Zk}
theorem Ji9 {it t:Zj}{items:Array Ze}(hne:t≠it):∀(n i:Nat)(s:Zk)(Q:List Ze->Zk->Prop),s.heap.IsListIter it t i->s.heap.IsList t items->i+n<=items.size ->
  (∀h',h'.IsListIter it t (i+n)->ZcG it s.heap h'->Q ((items.toList.drop i).take n) { s with heap:=h' })->Zt (Z3 prog w) A (draw (.ref it) n) Q E s
 | 0,i,s,Q,hit,_,_,hQ=>by
  show Zt _ _ (pure []) Q E s
  exact Zv (by simpa using hQ s.heap hit (Heap.SameBut.refl ..))
 | n+1,i,s,Q,hit,ht,hle,hQ=>by
  have hlt:i<items.size:=by omega
  show Zt _ _ (Zcs (.ref it)>>=_) Q E s
  refine Zg (ZcH hit ht (x:=items[i]) (by simp[hlt]) λ h₁ hit₁ hs₁=>?_)
  refine Zg (Zam (Ji9 hne n (i+1) _ _ hit₁ (ht.extBut hs₁.extBut hne) (by omega) λ h₂ hit₂ hs₂=>Zv ?_))
  have hd:items.toList.drop i=items[i]::items.toList.drop (i+1):=by simp[Zay,hlt]
  have:=hQ h₂ (by rw[show i+(n+1)=i+1+n by omega];exact hit₂) (hs₁.trans hs₂)
  rw[hd,List.take_succ_cons] at this
  exact this
theorem Jfd {t:Zj}{items:Array Ze}{Q:List Ze->Zk->Prop}(hh:A.handled=Zc)(ht:s.heap.IsList t items)
  (hQ:∀h',Zeq s.heap.objs.size s.heap h'->Q items.toList { s with heap:=h' }):Zt (Z3 prog w) A (unpackItems (.ref t) items.size Zc) Q E s:=by
 have hlt:t≠s.heap.objs.size:=by obtain⟨o,ho,_⟩:=ht;exact Z6 (Z0 ho)
 unfold unpackItems
 refine Zg ?_
 ·unfold notIterableAtAll
  refine Zg (wpAny_specialOf ht.typeIs slot_list_iter.lookup ?_)
  refine Zv ?_
  simp only[Zac,if_false]
  refine Zg (Zam (ZaZ ht ?_))
  refine Zg (Zam (Ji9 hlt items.size 0 _ _ ⟨_,Z1 _ rfl,rfl,rfl⟩ (ht.push _) (by omega) λ h₁ hit₁ hs₁=>?_))
  have hall:List.take items.size (List.drop 0 items.toList)=items.toList:=by
   rw[List.drop_zero];exact Zaq (by simp)
  rw[hall]
  rw[if_neg (by simp)]
  have ht₁:h₁.IsList t items:=(ht.push _).extBut hs₁.extBut hlt
  refine Zg (Zam (Zei hh hit₁ ht₁ (by simp) λ h₂ he₂=>?_))
  simp only[Option.isSome_none,Zac,if_false]
  refine Zv (hQ h₂ λ b o hb e=>he₂ b o hb (hs₁.extBut b o hb (Zi _ e)))
theorem Jet {env:Env}{elts:List Expr}{x1}{pos:Pos}{t:Zj}{items:Array Ze}{Q:Unit->Zk->Prop}(hh:A.handled=Zc)(ht:s.heap.IsList t items)
  (hn:(ZaL elts env).length=items.size)(hstar:(ZaL elts env).findIdx? (·.1)=Zc)
  (h:∀h',Zeq s.heap.objs.size s.heap h'->Zt (Z3 prog w) A (Ze0 ((ZaL elts env).map (·.2)) items.toList) Q E { s with heap:=h' }) :
  Zt (Z3 prog w) A (Zer (.Tuple elts x1 pos) env (.ref t)) Q E s:=by
 rw[assign_Tuple]
 refine Zg (Zbz ?_)
 unfold unpack
 rw[hn,hstar]
 exact Zg (Zam (Jfd hh ht h))
end
abbrev S1:=ISt->IH->SRes
structure Noted (L:Zj)(fs:List Zj)(e:Zj)(h h3:ZZ):Prop where
 ex:∃oe vs T ts,h.get? e=Za oe/\oe.data=.fields vs/\1<vs.size/\h3.get? e=Za (Zai (·.setIfInBounds 1 (.ref T)) oe)/\T≠e/\h.get? T=Zc/\h3.get? T=Za { cls:=.type "traceback",dict:=Zc,data:=.fields ts }/\ts[3]?=Za (ZbK L)
 slot:∀b o,h.get? b=Za o->b≠e->∃sl,h3.get? b=Za { o with slots:=sl }
 keep:∀b o,h.get? b=Za o->b≠e->b∉fs->h3.get? b=Za o
def Fly (L:Zj)(fs:List Zj)(e:Zj)(s s1:Zk):Prop:=s1=s∨∃h',s1={ s with heap:=h' }/\Noted L fs e s.heap h'
def JD (ce:CeT)(X:Cx)(pj:PnT)(ι:List Zj)(H:Hp)(r:SRes)(Q:Flow->Zk->Prop)(E:QvT):Prop :=
 match r with
 | .next σi' h'=>∀s' σ' H' ι',Now ce X pj ι' σi' h' σ' H' s'->Nxt ι H ι' H'->Q .next s'
 | .brk σi' h'=>∀s' σ' H' ι',Now ce X pj ι' σi' h' σ' H' s'->Nxt ι H ι' H'->Q .brk s'
 | .cont σi' h'=>∀s' σ' H' ι',Now ce X pj ι' σi' h' σ' H' s'->Nxt ι H ι' H'->Q .cont s'
 | .ret v h'=>∀u s' σi' σ' H' ι',Now ce X pj ι' σi' h' σ' H' s'->Nxt ι H ι' H'->RU X.K ι' H' v u->Q (.ret u) s'
 | .exc n σi' h'=>∀pl a s' σ' H' ι',Now ce X (pj++pl) ι' σi' h' σ' H' s'->Nxt ι H ι' H'->ι'[n]?=Za a->∀s1,Fly X.env.locals (frs X.stack) a s' s1->E (.ref a) s1
 | .stuck=>False
theorem JD.mono {ce:CeT}{X:Cx}{pj:PnT}{ι ι':List Zj}{H H':Hp}{r:SRes}{Q:Flow->Zk->Prop}{E:QvT}(k:JD ce X pj ι H r Q E)(n:Nxt ι H ι' H'):JD ce X pj ι' H' r Q E:=by
 cases r with
 | next σ h=>exact λ s' σ' H2 ι2 N n2=>k s' σ' H2 ι2 N (n.trans n2)
 | brk σ h=>exact λ s' σ' H2 ι2 N n2=>k s' σ' H2 ι2 N (n.trans n2)
 | cont σ h=>exact λ s' σ' H2 ι2 N n2=>k s' σ' H2 ι2 N (n.trans n2)
 | ret v h=>exact λ u s' σi' σ' H2 ι2 N n2=>k u s' σi' σ' H2 ι2 N (n.trans n2)
 | exc m σ h=>exact λ pl a s' σ' H2 ι2 N n2=>k pl a s' σ' H2 ι2 N (n.trans n2)
 | stuck=>exact k
def PSi (ce:CeT)(X:Cx)(t:Sem Flow)(m:S1):Prop :=
 ∀(pj:PnT)(s:Zk)(σ:L2.St)(H:Hp)(ι:List Zj)(σi:ISt)(h:IH)(Q:Flow->Zk->Prop)(E:QvT),Now ce X pj ι σi h σ H s->JD ce X pj ι H (m σi h) Q E->Zt (Z3 X.prog X.w) X.A t Q E s
abbrev PS1 (ce:CeT)(X:Cx)(st:Zb2)(m:S1):Prop:=PSi ce X (exec st X.env) m
abbrev PS2 (ce:CeT)(X:Cx)(sts:List Zb2)(m:S1):Prop:=PSi ce X (execs sts X.env) m
noncomputable def Jv:S1:=λ σ h=>.next σ h
def Je (a b:S1):S1:=λ σ h=>match a σ h with
 | .next σ' h'=>b σ' h'
 | r=>r
noncomputable def Jtj:S1:=λ σ h=>.next σ h
def Ju5:S1:=λ σ h=>.brk σ h
def J0r:S1:=λ σ h=>.cont σ h
noncomputable def rS {α:Type}(σ:ISt)(r:Res α)(k:α->IH->SRes):SRes:=match r with
 | .ok a h=>k a h
 | .exc n h=>.exc n σ h
 | .stuck=>.stuck
def JO (e:E1):S1:=λ σ h=>rS σ (e σ h) λ _ h'=>.next σ h'
def Jm (e:E1):S1:=λ σ h=>rS σ (e σ h) λ v h'=>.ret v h'
noncomputable def Jxh:S1:=λ _ h=>.ret .non h
def sIf (t:T1)(a b:S1):S1:=λ σ h=>rS σ (t σ h) λ c h'=>if c then a σ h' else b σ h'
def Jk (i:Nat)(e:E1):S1:=λ σ h=>rS σ (e σ h) λ v h'=>.next (σ.set i (Za v)) h'
section
variable {ce:CeT}{X:Cx}{st:Zb2}{rest:List Zb2}{m m1 m2:S1}{e:Expr}{me:E1}{pos:Pos}
theorem krun {α β:Type}{R:REL α β}{t:Sem β}{mm:ISt->IH->Res α}(p:PX ce X R t mm){pj:PnT}{s:Zk}{σ:L2.St}{H:Hp}{ι:List Zj}{σi:ISt}{h:IH}(N:Now ce X pj ι σi h σ H s){g:α->IH->SRes}{Q:Flow->Zk->Prop}{E:QvT}{Q1:β->Zk->Prop}
  (K:JD ce X pj ι H (rS σi (mm σi h) g) Q E)
  (step:∀x h1 u s1 H1 ι1,Now ce X pj ι1 σi h1 σ H1 s1->Nxt ι H ι1 H1->R X.K ι1 H1 x u->JD ce X pj ι1 H1 (g x h1) Q E->Q1 u s1):Zt (Z3 X.prog X.w) X.A t Q1 E s:=by
 refine p pj s σ H ι σi h Q1 E N ?_
 cases e:mm σi h with
 | ok v h' =>
  rw[e] at K
  exact λ u s' H' ι' N' n' r=>step v h' u s' H' ι' N' n' r (JD.mono (r:=g v h') K n')
 | exc n h' =>
  rw[e] at K
  exact λ pl a s' H' ι' N' n' q=>K pl a s' σ H' ι' N' n' q s' (.inl rfl)
 | stuck =>
  rw[e] at K
  exact K
theorem J0p:PS2 ce X [] Jv:=λ _ s σ H ι _ _ _ _ N K=>ZbU (K s σ H ι N .refl)
theorem Jxf (h1:PS1 ce X st m1)(h2:PS2 ce X rest m2):PS2 ce X (st::rest) (Je m1 m2):=by
 intro pj s σ H ι σi h Q E N K
 refine ZdP (h1 pj s σ H ι σi h _ E N ?_)
 unfold Je at K
 cases e:m1 σi h with
 | next σ' h' =>
  rw[e] at K
  exact λ s' σ2 H' ι' N' n'=>h2 pj s' σ2 H' ι' σ' h' Q E N' (JD.mono (r:=m2 σ' h') K n')
 | brk σ' h'=>rw[e] at K;exact K
 | cont σ' h'=>rw[e] at K;exact K
 | ret v h'=>rw[e] at K;exact K
 | exc n σ' h'=>rw[e] at K;exact K
 | stuck=>rw[e] at K;exact K
theorem J0q (h1:PS1 ce X st m1):PS2 ce X [st] m1:=by
 intro pj s σ H ι σi h Q E N K
 refine ZdP (h1 pj s σ H ι σi h _ E N ?_)
 cases e:m1 σi h with
 | next σ' h' =>
  rw[e] at K
  exact λ s' σ2 H' ι' N' n'=>ZbU (K s' σ2 H' ι' N' n')
 | brk σ' h'=>rw[e] at K;exact K
 | cont σ' h'=>rw[e] at K;exact K
 | ret v h'=>rw[e] at K;exact K
 | exc n σ' h'=>rw[e] at K;exact K
 | stuck=>rw[e] at K;exact K
theorem Ju7:PS1 ce X (.Pass pos) Jtj:=λ _ s σ H ι _ _ _ _ N K=>wpAny_Pass (K s σ H ι N .refl)
theorem Jxi:PS1 ce X (.Break pos) Ju5:=λ _ s σ H ι _ _ _ _ N K=>wpAny_Break (K s σ H ι N .refl)
theorem J0s:PS1 ce X (.Continue pos) J0r:=λ _ s σ H ι _ _ _ _ N K=>wpAny_Continue (K s σ H ι N .refl)
theorem J0t (he:PEi ce X e me)(hs:ZcD e Zc pos.line X.env=pure Zh:=by rfl):PS1 ce X (.Expr e pos) (JO me):=λ pj s σ H ι σi h Q E N K =>
 wpAny_Expr_any (krun he N K λ x h1 u s1 H1 ι1 N1 n1 r1 K1=>K1 s1 σ H1 ι1 N1 .refl) N.inv.quiet hs
theorem J0v (he:PEi ce X e me):PS1 ce X (.Return (Za e) pos) (Jm me):=λ pj s σ H ι σi h Q E N K =>
 wpAny_Return_some (krun he N K λ x h1 u s1 H1 ι1 N1 n1 r1 K1=>K1 u s1 σi σ H1 ι1 N1 .refl r1)
theorem J0w:PS1 ce X (.Return Zc pos) Jxh:=λ pj s σ H ι σi h Q E N K=>wpAny_Return_none (K .none s σi σ H ι N .refl ⟨.non,rfl,rfl⟩)
theorem s_if {c:Expr}{a b:List Zb2}{mt:T1}(hc:PTi ce X c mt)(ha:PS2 ce X a m1)(hb:PS2 ce X b m2):PS1 ce X (.If c a b pos) (sIf mt m1 m2):=λ pj s σ H ι σi h Q E N K =>
 wpAny_If (krun hc N K λ x h1 u s1 H1 ι1 N1 n1 r1 K1=>by
  have r':u=x:=r1
  subst r'
  cases u with
  | true=>exact ha pj s1 σ H1 ι1 σi h1 Q E N1 K1
  | false=>exact hb pj s1 σ H1 ι1 σi h1 Q E N1 K1)
theorem Jxk {i:Nat}{x:Str}{pos':Pos}(hN:X.N.Nodup)(he:PEi ce X e me)(hi:X.N[i]?=Za x:=by rfl)(hx:Loc X.env.scope x:=by assumption)(hs:ZcD e (Za (.Name x pos')) pos.line X.env=pure Zh:=by rfl)
  (hf:X.fn x=Zd∨X.env.scope.names.lookup x=Za .local:=by assumption):PS1 ce X (.Assign [.Name x pos'] e pos) (Jk i me):=λ pj s σ H ι σi h Q E N K =>
 wpAny_Assign_Name (krun he N K λ v h1 u s1 H1 ι1 N1 n1 r1 K1=>by
  obtain⟨w,rw',q⟩:=r1
  exact Yc N1.inv hN hi hx rw' (λ s2 I2=>K1 s2 _ H1 ι1 ⟨I2,N1.rel,N1.st.set i q⟩ .refl) hf) hs
abbrev G1:=IV->ISt->IH->SRes
def PGi (ce:CeT)(X:Cx)(tg:Expr)(g:G1):Prop :=
 ∀(pj:PnT)(s:Zk)(σ:L2.St)(H:Hp)(ι:List Zj)(σi:ISt)(h:IH)(v:IV)(u:Ze)(Q:Flow->Zk->Prop)(E:QvT),Now ce X pj ι σi h σ H s->RU X.K ι H v u->JD ce X pj ι H (g v σi h) Q E ->
  Zt (Z3 X.prog X.w) X.A (Zer tg X.env u) (λ _ s'=>Q .next s') E s
noncomputable def gNm (i:Nat):G1:=λ v σ h=>.next (σ.set i (Za v)) h
theorem g_nm {i:Nat}{x:Str}(hN:X.N.Nodup)(hi:X.N[i]?=Za x:=by rfl)(hx:Loc X.env.scope x:=by assumption)(hf:X.fn x=Zd∨X.env.scope.names.lookup x=Za .local:=by assumption):PGi ce X (.Name x pos) (gNm i):=by
 intro pj s σ H ι σi h v u Q E N r K
 obtain⟨w,rw',q⟩:=r
 exact wpAny_assign_Name (Yc N.inv hN hi hx rw' (λ s2 I2=>K s2 _ H ι ⟨I2,N.rel,N.st.set i q⟩ .refl) hf)
def PGsi (ce:CeT)(X:Cx)(ts:List Expr)(g:List IV->ISt->IH->SRes):Prop :=
 ∀(pj:PnT)(s:Zk)(σ:L2.St)(H:Hp)(ι:List Zj)(σi:ISt)(h:IH)(vs:List IV)(us:List Ze)(Q:Flow->Zk->Prop)(E:QvT),Now ce X pj ι σi h σ H s->RUs X.K ι H vs us->JD ce X pj ι H (g vs σi h) Q E ->
  Zt (Z3 X.prog X.w) X.A (Ze0 ((ZaL ts X.env).map (·.2)) us) (λ _ s'=>Q .next s') E s
noncomputable def gN:List IV->ISt->IH->SRes
 | [],σ,h=>.next σ h
 | _::_,_,_=>.stuck
def gC (g:G1)(r:List IV->ISt->IH->SRes):List IV->ISt->IH->SRes
 | v::vs,σ,h=>match g v σ h with
  | .next σ' h'=>r vs σ' h'
  | .exc n σ' h'=>.exc n σ' h'
  | _=>.stuck
 | [],_,_=>.stuck
theorem Jy7:PGsi ce X [] gN:=by
 intro pj s σ H ι σi h vs us Q E N r K
 cases vs with
 | nil =>
  obtain⟨xs,rv,q⟩:=r
  have e1:xs=[]:=q
  subst e1
  cases rv
  exact assignInOrder_nil (K s σ H ι N .refl)
 | cons v vs=>exact Zf K
theorem Jv6 {tg:Expr}{ts:List Expr}{g:G1}{r:List IV->ISt->IH->SRes}(h1:PGi ce X tg g)(h2:PGsi ce X ts r)
  (hs:(ZaL (tg::ts) X.env).map (·.2)=Zer tg X.env::(ZaL ts X.env).map (·.2):=by rfl):PGsi ce X (tg::ts) (gC g r):=by
 intro pj s σ H ι σi h vs us Q E N ru K
 cases vs with
 | nil=>exact Zf K
 | cons v vs =>
  obtain⟨xs,rv,x,xr,e1,q,qs⟩:=ru
  subst e1
  cases rv with
  | cons r1 r2 =>
   rw[hs]
   refine assignInOrder_cons (h1 pj s σ H ι σi h v _ (λ f s'=>Zt (Z3 X.prog X.w) X.A (Ze0 ((ZaL ts X.env).map (·.2)) _) (λ _ s'=>Q .next s') E s') E N ⟨x,r1,q⟩ ?_)
   have K':JD ce X pj ι H (match g v σi h with|.next σ' h'=>r vs σ' h'|.exc n σ' h'=>.exc n σ' h'|_=>.stuck) Q E:=K
   cases e:g v σi h with
   | next σ' h' =>
    rw[e] at K'
    exact λ s' σ2 H' ι' N' n'=>h2 pj s' σ2 H' ι' σ' h' vs _ Q E N' ⟨xr,r2,RVs.mono n' _ _ qs⟩ (JD.mono (r:=r vs σ' h') K' n')
   | exc n σ' h'=>rw[e] at K';exact K'
   | _=>rw[e] at K';exact(show False from K').elim
def gTp (n:Nat)(g:List IV->ISt->IH->SRes):G1:=λ v σ h=>match v with
 | .tup xs=>if xs.length=n then g xs σ h else .stuck
 | .ref i=>(match h[i]? with
  | some (.lst xs)=>if xs.length=n then g xs σ h else .stuck
  | _=>.stuck)
 | _=>.stuck
theorem J1y {es:List Expr}{k n:Nat}{g:List IV->ISt->IH->SRes}(hc:X.calm=Zd)(hg:PGsi ce X es g)(hn:(ZaL es X.env).length=n:=by rfl)(hst:(ZaL es X.env).findIdx? (·.1)=Zc:=by rfl):PGi ce X (.Tuple es k pos) (gTp n g):=by
 intro pj s σ H ι σi h v u Q E N r K
 obtain⟨w,rw',q⟩:=r
 cases v with
 | tup xs =>
  obtain⟨a,vs,e1,sa,ra⟩:=q
  subst e1
  cases rw'
  unfold gTp at K
  dsimp only at K
  split at K
  ·rename_i hl
   obtain⟨its,rv,ht,hz⟩:=N.inv.tuple sa
   have l1:=ra.length
   have l2:=rv.length
   refine assign_Tuple_tuple (N.inv.ok.hd hc) ht (by simp only[Z2];omega) hst λ h' hx=>?_
   have I1:Inv X pj σ H { s with heap:=h' }:=N.inv.kept (t':=s.toks) λ b o e=>hx b o (Z6 (Z0 e)) e
   exact hg pj _ σ H ι σi h xs _ Q E ⟨I1,N.rel,N.st⟩ ⟨vs,by simpa using rv,ra⟩ K
  ·exact Zf K
 | ref i =>
  obtain⟨a,e1,ha⟩:=q
  subst e1
  cases rw'
  unfold gTp at K
  dsimp only at K
  cases hi:h[i]? with
  | none=>rw[hi] at K;exact Zf K
  | some ob =>
   rw[hi] at K
   cases ob with
   | lst xs =>
    dsimp only at K
    split at K
    ·rename_i hl
     obtain⟨vs,g1,ra⟩:=N.at hi ha
     obtain⟨its,rv,ht,hz⟩:=N.inv.list (SqL.of g1)
     have l1:=ra.length
     have l2:=rv.length
     refine Jet (N.inv.ok.hd hc) ht.isList (by simp only[Z2];omega) hst λ h' hx=>?_
     have I1:Inv X pj σ H { s with heap:=h' }:=N.inv.kept (t':=s.toks) λ b o e=>hx b o (Z6 (Z0 e)) e
     exact hg pj _ σ H ι σi h xs _ Q E ⟨I1,N.rel,N.st⟩ ⟨vs,by simpa using rv,ra⟩ K
    ·exact Zf K
   | _=>exact Zf K
 | _=>exact Zf K
def sAsg (e:E1)(g:G1):S1:=λ σ h=>rS σ (e σ h) λ v h'=>g v σ h'
theorem J2s {tg:Expr}{g:G1}(he:PEi ce X e me)(hg:PGi ce X tg g)(hs:swapsWithSole [tg] e pos.line X.env=pure Zh:=by rfl)(hw:swappedStores [tg] e X.env=pure Zc:=by rfl)
  (h1:(ZaL [tg] X.env).map (·.2)=[Zer tg X.env]:=by rfl):PS1 ce X (.Assign [tg] e pos) (sAsg me g):=λ pj s σ H ι σi h Q E N K =>
 wpAny_Assign_stores (krun he N K λ v h2 u s1 H1 ι1 N1 n1 r1 K1=>by
  rw[h1]
  exact hg pj s1 σ H1 ι1 σi h2 v u Q E N1 r1 K1) hs hw
end
theorem ExF.ok {P:ZA}{w:ZM}{H:Hp}{h:ZZ}{a C:Zj}{tv:Ze}{dd:Option Zj}{oe:Obj}{vs:Array Ze}(e:h.get? a=Za oe)(c:oe.cls=.ref C)(d:oe.data=.fields vs)(v:vs[1]?=Za tv)(v2:vs[2]?=Za .none)(v3:oe.dict=dd):JF P w H h a (ExF a C tv dd) :=
 ⟨⟨oe,vs,e,c,d,v,v2,v3⟩,⟨oe,e⟩,λ _ _ ⟨o,us,e1,r⟩ k=>⟨o,us,k _ e1,r⟩⟩
theorem ExF.get {P:ZA}{w:ZM}{H:Hp}{h:ZZ}{a C:Zj}{tv:Ze}{d:Option Zj}(x:HOk P w H h)(e:H a=Za (ExF a C tv d)):∃oe vs,h.get? a=Za oe/\oe.cls=.ref C/\oe.data=.fields vs/\vs[1]?=Za tv/\vs[2]?=Za .none/\oe.dict=d :=
 (x a _ e).1
theorem Ji8 (o:Obj)(f:Array Ze->Array Ze):(o.mapFields f).dict=o.dict:=by
 unfold Zai
 split<;>rfl
theorem Jr9 {P:ZA}{w:ZM}{H:Hp}{h:ZZ}{a C C':Zj}{tv tv':Ze}{d d':Option Zj}(x:HOk P w H h)(e1:H a=Za (ExF a C tv d))(e2:H a=Za (ExF a C' tv' d')):d=d':=by
 obtain⟨o,_,g,_,_,_,_,q⟩:=ExF.get x e1
 obtain⟨o',_,g',_,_,_,_,q'⟩:=ExF.get x e2
 cases g.symm.trans g'
 exact q.symm.trans q'
theorem Jqb {P:ZA}{w:ZM}{H:Hp}{h:ZZ}{a:Zj}:∀{o:HO},JF P w H h a o->∃u,h.get? a=Za u:=λ {o} q=>by
 cases o with
 | lst _=>obtain⟨_,_,_,_,e⟩:=q;exact⟨_,e⟩
 | tup _=>obtain⟨_,_,_,⟨_,e,_⟩⟩:=q;exact⟨_,e⟩
 | dK _=>obtain⟨_,_,_,_,o,_,_,e,_⟩:=q;exact⟨o,e⟩
 | dT _=>obtain⟨_,_,_,_,o,_,_,e,_⟩:=q;exact⟨o,e⟩
 | set _ _=>obtain⟨o,_,_,_,e,_⟩:=q;exact⟨o,e⟩
 | ins _ _ _=>obtain⟨_,_,_,e,_⟩:=q;exact⟨_,e⟩
 | own _=>obtain⟨_,e⟩:=q;exact⟨_,e⟩
 | xd _=>obtain⟨_,⟨_,_,_,e,_⟩,_⟩:=q;exact⟨_,e⟩
 | rng _ _=>obtain⟨_,_,_,e⟩:=q;exact⟨_,e⟩
 | frz _ _=>obtain⟨e,_⟩:=q;exact⟨_,e⟩
 | tbl _=>exact⟨_,(show h.get? a=Za _ from q)⟩
 | met _ _=>exact⟨_,(show h.get? a=Za _ from q)⟩
 | ext _=>obtain⟨_,⟨_,e⟩,_⟩:=q;exact⟨_,e⟩
theorem Jk4 {h:ZZ}{T:Zj}{oT:Obj}{ts:Array Ze}{v:Ze}(e:h.get? T=Za oT)(d:oT.data=.fields ts)(q:ts[3]?=Za v):(h.update T (Zai (·.setIfInBounds 3 v))).get? T=Za oT:=by
 have es:ts.setIfInBounds 3 v=ts:=by
  refine Array.ext (by simp) λ i h1 h2=>?_
  rw[Array.getElem_setIfInBounds]
  split
  ·rename_i z
   subst z
   rw[Zcr h2] at q
   exact(Zad q).symm
  ·rfl
 have eo:Zai (·.setIfInBounds 3 v) oT=oT:=by
  obtain⟨c,dd,dt,sl⟩:=oT
  have d:dt=.fields ts:=d
  subst d
  simp only[Zai,es]
 rw[ZaA _ e (by rw[eo];exact Zb7 d),eo]
section
variable {X:Cx}{pj:PnT}{σ:L2.St}{H:Hp}{s:Zk}{M:ZeB}{E:QvT}{Q:Unit->Zk->Prop}{a C:Zj}{tv:Ze}{d:Option Zj}{h3:ZZ}{s1:Zk}
structure Past (X:Cx)(H:Hp)(h:ZZ)(a C:Zj)(d:Option Zj)(T:Zj)(oT:Obj)(h':ZZ):Prop where
 new:H T=Zc
 ne:T≠a
 fld:∃ts,oT.data=.fields ts/\ts[3]?=Za .none
 un:Un (frs X.stack) [] H (upd (upd H T (.frz oT (.own 0))) a (ExF a C (.ref T) d)) h h'
 hok:HOk X.prog X.w (upd (upd H T (.frz oT (.own 0))) a (ExF a C (.ref T) d)) h'
theorem Jia (I:Inv X pj σ H s)(hs:X.stack=X.env::X.outer)(hf:X.env.frame=Za X.env.locals)(ha:H a=Za (ExF a C tv d))(ht:TvOk H tv)
  (k:∀h3,Noted X.env.locals (frs X.stack) a s.heap h3->Q () { s with heap:=h3 }):Zt M X.A (ZdQ (.ref a) X.env) Q E s:=by
 obtain⟨oe,vs,e1,e2,e3,e4,e5,e6⟩:=ExF.get I.hok ha
 have hfa:a∉frs X.stack:=λ z=>by rw[I.stkFree a z] at ha;cases ha
 have fr:=I.ok.frames
 have ff:s.heap.FunFrames X.base X.stack:=I.stack
 have len1:1<vs.size:=(ZaD.mp e4).1
 have go:∀(h:ZZ){head:Ze}{hn:Bool},(∀b,h.get? b=s.heap.get? b)->Zt M X.A (do let f<-frameOf X.env;let pl<-entryPlaceOf X.env.locals hn;let b<-EntryCells.newEntry head f .none (ZbK X.env.locals) .none pl;setField (.ref a) 1 b) Q E { s with heap:=h }:=by
  intro h head hn hh
  have ffh:h.FunFrames X.base X.stack:=ff.of_keeps λ b o q _=>⟨o,(hh b).trans q,rfl⟩
  rw[hs] at fr ffh
  refine Zg (wpAny_frameOf_fun (s:={ s with heap:=h }) fr ffh hf λ h1 so=>?_)
  have he1:h1.get? a=Za oe:=(so.2.1 a (by rw[hs] at hfa;exact hfa)).trans ((hh a).trans e1)
  refine Zg (wpAny_entryPlaceOf λ pl hpl=>?_)
  unfold EntryCells.newEntry newFields
  refine Zg (ZcM ?_ (hpl.sizeOk5 _ _ _ _ _))
  have t3:([head,ZaI X.env.locals,ZK,ZbK X.env.locals,ZK]++(if pl.isEmpty then ZO 6 ZK else pl)).toArray[3]?=Za (ZbK X.env.locals):=by simp
  generalize ([head,ZaI X.env.locals,ZK,ZbK X.env.locals,ZK]++(if pl.isEmpty then ZO 6 ZK else pl)).toArray=ts at t3 ⊢
  have lt2:∀b o,h1.get? b=Za o->b≠h1.objs.size:=λ b o q=>Z6 (Z0 q)
  have nT:h1.objs.size≠a:=ZT (lt2 a _ he1)
  have up2:∀b o,h1.get? b=Za o->(h1.push { cls:=.type "traceback",dict:=Zc,data:=.fields ts }).get? b=Za o:=λ b o q=>Zi _ q
  have gT2:(h1.push { cls:=.type "traceback",dict:=Zc,data:=.fields ts }).get? h1.objs.size=Za { cls:=.type "traceback",dict:=Zc,data:=.fields ts }:=Z1 h1 rfl
  refine ZbN (up2 _ _ he1) e3 len1 (k _ ⟨⟨oe,vs,h1.objs.size,ts,e1,e3,len1,ZaA _ (up2 _ _ he1) (Zb7 (Za0 e3 _)),nT,?_,(Zy _ _ (ZT nT)).trans gT2,t3⟩,λ b o q n=>?_,λ b o q n m=>?_⟩)
  ·cases q:s.heap.get? h1.objs.size with
   | none=>rfl
   | some o =>
    obtain⟨sl,z⟩:=so.2.2 _ _ ((hh _).trans q)
    exact absurd rfl (lt2 _ _ z)
  ·obtain⟨sl,z⟩:=so.2.2 _ _ ((hh b).trans q)
   exact⟨sl,(Zy _ _ (ZT n)).trans (up2 _ _ z)⟩
  ·exact(Zy _ _ (ZT n)).trans (up2 _ _ ((so.2.1 b (by rw[hs] at m;exact m)).trans ((hh b).trans q)))
 unfold ZdQ
 rw[hf]
 refine Zg (Zb0 e1 e3 e4 ?_)
 rcases ht with rfl|⟨T,oT,ts,rfl,q1,q2,q3⟩
 ·rw[if_neg (by decide)]
  exact go s.heap λ _=>rfl
 ·have gT:s.heap.get? T=Za oT:=(I.hok T _ q1).1
  rw[if_pos (by simp)]
  refine Zg (Zb0 gT q2 q3 ?_)
  rw[if_neg (by simp[ZbK])]
  refine Zg (ZbN gT q2 (ZaD.mp q3).1 ?_)
  refine go _ λ b=>?_
  by_cases z:b=T
  ·subst z
   exact(Jk4 gT q2 q3).trans gT.symm
  ·exact Zy _ _ (ZT z)
theorem Jdi {A:ZG}{env:Env}{fs:List Zj}{h:ZZ}(hf:env.frame=Za env.locals)(n:Noted env.locals fs a h h3)(q:Q () { s with heap:=h3 }):Zt M A (ZdQ (.ref a) env) Q E { s with heap:=h3 }:=by
 obtain⟨⟨oe,vs,T,ts,g1,g2,g3,g4,g5,g6,g7,g8⟩,_,_⟩:=n
 unfold ZdQ
 rw[hf]
 refine Zg (Zb0 (x:=.ref T) g4 (Za0 g2 _) (by simp[g3]) ?_)
 rw[if_pos (by simp)]
 refine Zg (Zb0 g7 rfl g8 ?_)
 rw[if_pos (by simp)]
 exact Zv q
theorem Jhh {A:ZG}{env:Env}{fs:List Zj}{h:ZZ}(hf:env.frame=Za env.locals)(n:Noted env.locals fs a h h3)(k:∀h4,Noted env.locals fs a h h4->E (.ref a) { s with heap:=h4 }):Ze6 M A env E (.ref a) { s with heap:=h3 }:=by
 obtain⟨⟨oe,vs,T,ts,g1,g2,g3,g4,g5,g6,g7,g8⟩,sl,kp⟩:=n
 unfold Ze6
 refine Zg (Zb0 (x:=.ref T) g4 (Za0 g2 _) (by simp[g3]) ?_)
 rw[if_neg (by simp)]
 rw[hf]
 unfold ZcY
 refine Zg (Zb0 (x:=.ref T) g4 (Za0 g2 _) (by simp[g3]) ?_)
 rw[if_pos (by simp)]
 refine ZbN g7 rfl (ZaD.mp g8).1 ?_
 have up:∀b o,h3.get? b=Za o->(h3.update T (Zai (·.setIfInBounds 3 (ZbK env.locals)))).get? b=Za o:=λ b o q=>by
  by_cases z:b=T
  ·subst z
   rw[g7] at q
   cases q
   exact Jk4 g7 rfl g8
  ·exact(Zy _ _ (ZT z)).trans q
 exact k _ ⟨⟨oe,vs,T,ts,g1,g2,g3,up _ _ g4,g5,g6,up _ _ g7,g8⟩,λ b o q n=>let ⟨s',z⟩:=sl b o q n;⟨s',up _ _ z⟩,λ b o q n m=>up _ _ (kp b o q n m)⟩
theorem Jhi {L:Zj}(I:Inv X pj σ H s)(ha:H a=Za (ExF a C tv d))(n:Noted L (frs X.stack) a s.heap h3)(k:∀T oT h',Past X H s.heap a C d T oT h'->Q () { s with heap:=h' }):Zt M X.A (ZcY (.ref a) Zc) Q E { s with heap:=h3 }:=by
 obtain⟨⟨oe,vs,T,ts,g1,g2,g3,g4,g5,nT,g7,g8⟩,sl,kp⟩:=n
 obtain⟨oe',vs',x1,x2,x3,x4,x5,x6⟩:=ExF.get I.hok ha
 rw[g1] at x1
 cases x1
 rw[g2] at x3
 cases x3
 have hok:=I.hok
 have hfr:∀b∈frs X.stack,H b=Zc:=I.stkFree
 have hT:H T=Zc:=by
  cases q:H T with
  | none=>rfl
  | some u =>
   obtain⟨o,z⟩:=Jqb (hok T u q)
   rw[nT] at z
   cases z
 have tz:3<ts.size:=(ZaD.mp g8).1
 unfold ZcY
 refine Zg (Zb0 (x:=.ref T) g4 (Za0 g2 _) (by simp[g3]) ?_)
 rw[if_pos (by simp)]
 refine ZbN g7 rfl tz ?_
 have e1:=(Zy h3 (Zai (·.setIfInBounds 3 ((Zc:Option Zj).elim ZK λ f=>ZbK f))) g5).trans g4
 have e7:=ZaA (Zai (·.setIfInBounds 3 ((Zc:Option Zj).elim ZK λ f=>ZbK f))) g7 (Zb7 (Za0 rfl _))
 have d7:=Za0 (o:={ cls:=.type "traceback",dict:=Zc,data:=.fields ts }) rfl (·.setIfInBounds 3 ((Zc:Option Zj).elim ZK λ f=>ZbK f))
 have lt:∀b o,s.heap.get? b=Za o->T≠b:=λ b o q z=>by rw[z,q] at nT;cases nT
 have keep:∀b o,s.heap.get? b=Za o->b≠a->b∉frs X.stack->(h3.update T (Zai (·.setIfInBounds 3 ((Zc:Option Zj).elim ZK λ f=>ZbK f)))).get? b=Za o:=λ b o q n1 n2=>(Zy _ _ (lt b o q)).trans (kp b o q n1 n2)
 have slot:∀b o,s.heap.get? b=Za o->b≠a->∃sl,(h3.update T (Zai (·.setIfInBounds 3 ((Zc:Option Zj).elim ZK λ f=>ZbK f)))).get? b=Za { o with slots:=sl }:=λ b o q n1=>let ⟨s',z⟩:=sl b o q n1;⟨s',(Zy _ _ (lt b o q)).trans z⟩
 generalize h3.update T (Zai (·.setIfInBounds 3 ((Zc:Option Zj).elim ZK λ f=>ZbK f)))=h' at e1 e7 keep slot
 generalize Zai (·.setIfInBounds 3 ((Zc:Option Zj).elim ZK λ f=>ZbK f)) { cls:=.type "traceback",dict:=Zc,data:=.fields ts }=oT at e7 d7
 have na:∀{b:Zj}{u:HO},H b=Za u->(∀φ,u≠.ext φ)->b≠a:=λ {b u} q n z=>by
  subst z
  rw[ha] at q
  cases q
  exact n _ rfl
 have nTb:∀{b:Zj}{u:HO},H b=Za u->b≠T:=λ {b u} q z=>by
  subst z
  rw[hT] at q
  cases q
 have up:∀{b:Zj}{u:HO},H b=Za u->(∀φ,u≠.ext φ)->upd (upd H T (.frz oT (.own 0))) a (ExF a C (.ref T) d) b=Za u:=λ {b u} q n=>by
  rw[Jl (na q n),Jl (nTb q)]
  exact q
 have fa:a∉frs X.stack:=λ z=>by rw[hfr a z] at ha;cases ha
 refine k T oT h' ⟨hT,g5,⟨_,d7,by simp[tz]⟩,⟨λ b o q n hb _=>keep b o q (λ z=>by subst z;rw[ha] at n;cases n) hb,λ b o q _ hb _=>slot b o q (λ z=>fa (z▸hb)),λ b o q n _=>?_,λ b o q _=>?_,λ b xs q=>up q nofun,λ b o u q=>up q nofun,λ b ps q=>⟨#[],by rw[up q nofun];simp⟩⟩,λ b u q=>?_⟩
 ·rw[Jl (λ z=>by subst z;rw[ha] at n;cases n),Jl (λ z=>by subst z;rw[nT] at q;cases q)]
  exact n
 ·by_cases z:b=a
  ·subst z
   exact⟨_,e1⟩
  ·obtain⟨sl,w⟩:=slot b o q z
   exact⟨_,w⟩
 ·by_cases z:b=a
  ·subst z
   rw[Jw] at q
   cases q
   exact ExF.ok e1 ((Zd5 _ _).trans x2) (Za0 g2 _) (by simp[g3]) (by rw[ZbJ (by decide)];exact x5) ((Ji8 _ _).trans x6)
  ·rw[Jl z] at q
   by_cases y:b=T
   ·subst y
    rw[Jw] at q
    cases q
    exact⟨e7,⟨oT,e7⟩⟩
   ·rw[Jl y] at q
    refine(hok b u q).stay (λ c v hc p=>?_) (λ c p=>up p nofun) λ c xs p=>up p nofun
    refine keep c v p ?_ ?_
    ·rcases hc with rfl|hc
     ·exact z
     ·exact na hc nofun
    ·intro m
     rcases hc with rfl|hc
     ·rw[hfr _ m] at q;cases q
     ·rw[hfr _ m] at hc;cases hc
theorem Jl8 (I:Inv X pj σ H s)(fl:Fly X.env.locals (frs X.stack) a s s1)(hs:X.stack=X.env::X.outer)(hf:X.env.frame=Za X.env.locals)(ha:H a=Za (ExF a C tv d))(ht:TvOk H tv)
  (k:∀T oT h',Past X H s.heap a C d T oT h'->Q () { s with heap:=h' }):Zt M X.A (ZdQ (.ref a) X.env) (λ _ s'=>Zt M X.A (ZcY (.ref a) Zc) Q E s') E s1:=by
 rcases fl with rfl|⟨h',rfl,n⟩
 ·exact Jia I hs hf ha ht λ h3 n=>Jhi I ha n k
 ·exact Jdi hf n (Jhi I ha n k)
theorem Jp3 (I:Inv X pj σ H s)(fl:Fly X.env.locals (frs X.stack) a s s1)(hs:X.stack=X.env::X.outer)(hf:X.env.frame=Za X.env.locals)(ha:H a=Za (ExF a C tv d))(ht:TvOk H tv)
  (k:∀T oT h',Past X H s.heap a C d T oT h'->Q () { s with heap:=h' }):Zt M X.A (leaving X.env (.ref a)) Q E s1:=by
 unfold leaving
 exact Zg (Jl8 I fl hs hf ha ht k)
end
def CXI (P:ZA)(w:ZM):CXT:=λ outer H s E e s'=>∃H',s'.os=s.os/\Zdn s'.gens/\Un (frs outer) [] H H' s.heap s'.heap/\HOk P w H' s'.heap/\E e Zc H'
theorem Un.tail {L:Zj}{fs:List Zj}{H H1 H2:Hp}{h h1 h2:ZZ}(a:Un fs [] H H1 h h1)(b:Un (L::fs) [] H1 H2 h1 h2)(n:h.get? L=Zc):Un fs [] H H2 h h2 where
 keep:=λ c o q m hc _=>b.keep c o (a.keep c o q m hc (by simp)) (a.free c o q m (by simp)) (λ z=>(ZH.mp z).elim (λ y=>by subst y;rw[n] at q;cases q) hc) (by simp)
 slot:=λ c o q m hc _=>by
  obtain⟨sl,e1⟩:=a.slot c o q m hc (by simp)
  obtain⟨sl',e2⟩:=b.any e1 (a.free c o q m (by simp)) (by simp)
  exact⟨sl',e2⟩
 free:=λ c o q m _=>by
  obtain⟨o',e1⟩:=a.there c o q (by simp)
  exact b.free c o' e1 (a.free c o q m (by simp)) (by simp)
 there:=λ c o q _=>by
  obtain⟨o',e1⟩:=a.there c o q (by simp)
  exact b.there c o' e1 (by simp)
 tups:=λ c xs q=>b.tups c xs (a.tups c xs q)
 frzs:=λ c o u q=>b.frzs c o u (a.frzs c o u q)
 tbls:=λ c ps q=>by
  obtain⟨m1,e1⟩:=a.tbls c ps q
  obtain⟨m2,e2⟩:=b.tbls c _ e1
  exact⟨m1++m2,by rw[e2,Zdr]⟩
section
variable {X:Cx}{pj:PnT}{σ:L2.St}{H:Hp}{s:Zk}{k:Nat}{f C:Zj}{fd:Zap}{ps:List Str}{sp:Sp}{dvs:List V}{ds:List Ze}{E:XK}{Q:VK}{us:List Ze}{vs:List V}{W:QvT}
theorem Jq0 {e:Ze}{s':Zk}(I:Inv X pj σ H s)(h:CXI X.prog X.w X.stack H s E e s'):∃H',Inv X pj σ H' s'/\E e Zc H':=by
 obtain⟨H',os,bare,un,hok,q⟩:=h
 exact⟨H',I.call' os un hok bare λ b z=>absurd z (by simp),q⟩
theorem Jxe (F:FnOk X.prog X.w X.K X.mg X.base (CXI X.prog X.w) k f fd ps sp)(hr:Room k X.A)(hb:JI X.K fd ps ds)(hd:Vals dvs ds)(I:Inv X pj σ H s)(r:Vals vs us)(h:sp (vs++dvs) H Q E)
  (hx:∀e s' H',Inv X pj σ H' s'->E e Zc H'->W e s'):Zt (Z3 X.prog X.w) X.A (call (.ref f) us) (EP X pj σ Q) W s:=by
 have ra:Vals (vs++dvs) (us++ds):=r.append hd
 have la:=ra.length
 have lf:=F.len _ _ _ _ h
 refine Zc6 (ZbS (F.run _ _ _ _ ⟨us,[]⟩ _ _ _ _ hr I.env0 (hb s us I.kIn (by omega)) ra h) λ res s' q=>?_)
 match res,q with
 | .error e,q =>
  obtain⟨H',I',z⟩:=Jq0 I q
  exact hx e s' H' I' z
 | .ok (.ret u),q=>exact I.after q
 | .ok .next,q=>exact Za9 q
 | .ok .brk,q=>exact Za9 q
 | .ok .cont,q=>exact Za9 q
theorem Jqj (M:Mk X.K C f)(F:FnOk X.prog X.w X.K X.mg X.base (CXI X.prog X.w) k f fd ps sp)(hr:Room (k+1) X.A)(hb:JI X.K fd ps ds)(hd:Vals dvs ds)(I:Inv X pj σ H s)(r:Vals vs us)
  (h:∀x dx,H x=Zc->H dx=Zc->dx≠x->sp (.ref x::(vs++dvs)) (upd (upd H dx (.own x)) x (.ins C dx [])) (λ v H2=>v=.non/\Q (.ref x) H2) E)
  (hx:∀e s' H',Inv X pj σ H' s'->E e Zc H'->W e s'):Zt (Z3 X.prog X.w) X.A (call (.ref C) us) (EP X pj σ Q) W s:=by
 have z0:=s.heap.objs.size
 have hq:=h (s.heap.objs.size+1) s.heap.objs.size (I.hok.fresh (ZaC _)) (I.hok.fresh (Zr _)) (Z6 (ZaV _))
 have J:=Inv.made (C:=C) I
 have ra:Vals (V.ref (s.heap.objs.size+1)::(vs++dvs)) (ZaI (s.heap.objs.size+1)::(us++ds)):=.cons rfl (r.append hd)
 have la:=ra.length
 have lf:=F.len _ _ _ _ hq
 have hl:(ZaI (s.heap.objs.size+1)::us++ds).length=ps.length:=by
  rw[ZS]
  omega
 refine Zc6 (Js2 (f:=f) I.kIn M.makes M.init (beq_iff_eq.mp M.fn) (ZbS (F.run _ _ _ _ ⟨.ref (s.heap.objs.size+1)::us,[]⟩ _ _ _ _ (hr.make C us []) (J.env0.make C us []) (hb _ (.ref (s.heap.objs.size+1)::us) J.kIn hl) ra hq) λ res s' q=>?_))
 match res,q with
 | .error e,q =>
  obtain⟨H',I',z⟩:=Jq0 J q
  exact hx e s' H' I' z
 | .ok (.ret u),q =>
  obtain⟨v,H',J3,rv,ev,q3⟩:=J.after q
  subst ev
  exact⟨rv,⟨V.ref (s.heap.objs.size+1),H',J3,rfl,q3⟩⟩
 | .ok .next,q=>exact Za9 q
 | .ok .brk,q=>exact Za9 q
 | .ok .cont,q=>exact Za9 q
end
structure ItI where
 xs:List IV
 chk:IH->Prop
open Classical in
def JY (chk:IH->Prop)(g:G1)(b:S1):List IV->ISt->IH->SRes
 | [],σ,h=>if chk h then .next σ h else .stuck
 | x::xs,σ,h=>if chk h then(match g x σ h with
   | .next σ1 h1=>(match b σ1 h1 with
    | .next σ2 h2=>JY chk g b xs σ2 h2
    | .cont σ2 h2=>JY chk g b xs σ2 h2
    | .brk σ2 h2=>.next σ2 h2
    | .ret v h2=>.ret v h2
    | .exc n σ2 h2=>(match h2[n]? with
     | some (.exc _ _)=>.exc n σ2 h2
     | _=>.stuck)
    | _=>.stuck)
   | _=>.stuck) else .stuck
abbrev I1:=ISt->IH->Res ItI
def sFor (it:I1)(g:G1)(b:S1):S1:=λ σ h=>rS σ (it σ h) λ J h'=>JY J.chk g b J.xs σ h'
structure ItOk (ce:CeT)(K:W.Frag)(ι:List Zj)(H₀:Hp)(J:It)(I:ItI):Prop where
 go:∀(k:Nat)(x:IV)(h:IH)(H:Hp)(ι':List Zj),Nxt ι H₀ ι' H->Rel ce K ι' h H->I.chk h->I.xs[k]?=Za x ->
  J.go k H/\∀y H',J.yld k H y H'->Rel ce K ι' h H'/\Nxt ι' H ι' H'/\RV K ι' H' x y
 stop:∀(k:Nat)(h:IH)(H:Hp)(ι':List Zj),Nxt ι H₀ ι' H->Rel ce K ι' h H->I.chk h->I.xs.length<=k->J.stop k H
theorem Rel.get {ce:CeT}{K:W.Frag}{ι:List Zj}{h:IH}{H:Hp}(R:Rel ce K ι h H){i:Nat}{o:IX}(e:h[i]?=Za o){a:Zj}(ha:ι[i]?=Za a):RO ce K ι H a o:=by
 obtain⟨b,e1,r⟩:=R.at_ i o e
 rw[ha] at e1
 cases e1
 exact r
def RIt (ce:CeT)(X:Cx)(tg:Expr)(pj:PnT)(ι':List Zj)(I:ItI)(itv:Ze)(s2:Zk)(H':Hp):Prop :=
 ∃(it:Zj)(fp:List Zj)(tn:Nat->ZZ->Prop)(J:It),itv=.ref it/\Turn X.prog X.w X.K tg J fp it tn/\tn 0 s2.heap/\(∀b∈fp,FpOk X pj H' b)/\ItOk ce X.K ι' H' J I
def PIi (ce:CeT)(X:Cx)(tg iter:Expr)(m:I1):Prop :=
 ∀(pj:PnT)(s:Zk)(σ:L2.St)(H:Hp)(ι:List Zj)(σi:ISt)(h:IH)(Q:QvT)(E:QvT),Now ce X pj ι σi h σ H s ->
  (match m σi h with
   | .ok I h'=>∀itv s' H' ι',Now ce X pj ι' σi h' σ H' s'->Nxt ι H ι' H'->RIt ce X tg pj ι' I itv s' H'->Q itv s'
   | .exc n h'=>∀pl a s' H' ι',Now ce X (pj++pl) ι' σi h' σ H' s'->Nxt ι H ι' H'->ι'[n]?=Za a->E (.ref a) s'
   | .stuck=>False) ->
  Zt (Z3 X.prog X.w) X.A (ZaQ iter X.env) (λ v s1=>Zt (Z3 X.prog X.w) X.A (Ze4 v) Q E s1) E s
section
variable {ce:CeT}{X:Cx}
theorem nof {M:ZeB}{A:ZG}{α:Type}{t:Sem α}{Q:α->Zk->Prop}{E:QvT}{s:Zk}(h:Zt M A t Q (λ _ _=>False) s):Zt M A t Q E s:=ZP h (λ _ _ x=>x) λ _ _ z=>z.elim
theorem Now.pins {pj:PnT}{pl:PnT}{ι:List Zj}{σi:ISt}{h:IH}{σ:L2.St}{H:Hp}{s:Zk}(N:Now ce X (pj++pl) ι σi h σ H s):Now ce X pj ι σi h σ H s:=⟨N.inv.unpinned,N.rel,N.st⟩
theorem J2u {tg iter:Expr}{body:List Zb2}{mi:I1}{g:G1}{mb:S1}{pos:Pos}(hc:X.calm=Zd)(hst:X.stack=X.env::X.outer)(hf:X.env.frame=Za X.env.locals)(hi:PIi ce X tg iter mi)(hg:PGi ce X tg g)(hb:PS2 ce X body mb)
  (hs:∀x,ZbE iter X.env x=pure x:=by intro _;rfl):PS1 ce X (.For tg iter body [] pos) (sFor mi g mb):=by
 intro pj s σ H ι σi h Q E N K
 refine wpAny_For (hi pj s σ H ι σi h _ E N ?_) hs
 unfold sFor at K
 cases e0:mi σi h with
 | exc n h'=>rw[e0] at K;exact λ pl a s' H' ι' N' n' q=>K pl a s' σ H' ι' N' n' q s' (.inl rfl)
 | stuck=>rw[e0] at K;exact K
 | ok I h' =>
  rw[e0] at K
  intro itv s2 H2 ι2 N2 n2 R
  obtain⟨it,fp,tn,J,e,T,st2,f2,OK⟩:=R
  subst e
  have stat:∀{H':Hp},(∀b∈fp,H' b=Zc)->∀b∈fp,FpOk X pj H' b:=λ hn b hb=>⟨hn b hb,(f2 b hb).2⟩
  have K2:JD ce X pj ι2 H2 (JY I.chk g mb I.xs σi h') Q E:=JD.mono (r:=JY I.chk g mb I.xs σi h') K n2
  refine codeAny_forLoop_any (λ n s'=>∃k ιk σk hk σ' H',Now ce X pj ιk σk hk σ' H' s'/\Nxt ι2 H2 ιk H'/\tn k s'.heap/\(∀b∈fp,H' b=Zc)/\n=I.xs.length-k/\k<=I.xs.length/\JD ce X pj ιk H' (JY I.chk g mb (I.xs.drop k) σk hk) Q E) ?_ I.xs.length
   ⟨0,ι2,σi,h',σ,H2,N2,.refl,st2,λ b hb=>(f2 b hb).1,by simp,Zaa _,by simpa using K2⟩
  rintro n s3 ⟨k,ιk,σk,hk,σ3,H3,N3,n3,st3,fr3,rfl,hkl,K3⟩
  by_cases hlt:k<I.xs.length
  ·-- a turn
   have hd:I.xs.drop k=I.xs[k]::I.xs.drop (k+1):=Zay hlt
   rw[hd] at K3
   unfold JY at K3
   split at K3
   ·rename_i hck
    obtain⟨go,yl⟩:=OK.go k I.xs[k] hk H3 ιk n3 N3.rel hck (Zb hlt)
    refine nof (thn (T.item X rfl rfl rfl hc k pj s3 σ3 H3 (λ _ _=>False) N3.inv (stat fr3) st3 go) λ r s4 ⟨u,hr,h4⟩=>?_)
    subst hr
    refine nof (thn h4 λ _ s5 ⟨x,H5,I5,r5,y5,st5,fr5⟩=>?_)
    obtain⟨R5,n5,q5⟩:=yl x H5 y5
    have I5':=I5.pinned (stat fr5) (T.obj _ _ st5)
    have N5:Now ce X (pj++Qy fp s5.heap) ιk σk hk σ3 H5 s5:=⟨I5',R5,N3.st.mono n5⟩
    cases eg:g I.xs[k] σk hk with
    | next σg hgg =>
     rw[eg] at K3
     dsimp only at K3
     refine nof (hg _ s5 σ3 H5 ιk σk hk _ u (λ _ s6=>Zt (Z3 X.prog X.w) X.A (execs body X.env) _ _ s6) (λ _ _=>False) N5 ⟨x,r5,q5⟩ ?_)
     rw[eg]
     intro s6 σ6 H6 ι6 N6 n6
     refine hb _ s6 σ6 H6 ι6 σg hgg _ _ N6 ?_
     have again:∀{σ7:L2.St}{H7:Hp}{s7:Zk}{σ7i:ISt}{h7:IH}{ι7:List Zj},Now ce X (pj++Qy fp s5.heap) ι7 σ7i h7 σ7 H7 s7->Nxt ι6 H6 ι7 H7->JD ce X pj ιk H3 (JY I.chk g mb (I.xs.drop (k+1)) σ7i h7) Q E ->
       ∃m,m<I.xs.length-k/\∃k ιk σk hk σ' H',Now ce X pj ιk σk hk σ' H' s7/\Nxt ι2 H2 ιk H'/\tn k s7.heap/\(∀b∈fp,H' b=Zc)/\m=I.xs.length-k/\k<=I.xs.length/\JD ce X pj ιk H' (JY I.chk g mb (I.xs.drop k) σk hk) Q E :=
      λ {σ7 H7 s7 σ7i h7 ι7} N7 n7 K7=>by
       have nn:Nxt ιk H3 ι7 H7:=(n5.trans n6).trans n7
       refine⟨I.xs.length-(k+1),by omega,k+1,ι7,σ7i,h7,σ7,H7,N7.pins,n3.trans nn,T.keep _ _ _ st5 λ b hb o e=>(N7.inv.pin (b,o) (Zx _ (Zx _ (XX hb e)))).1,λ b hb=>?_,rfl,hlt,K7.mono nn⟩
       obtain⟨o,e,d⟩:=T.obj _ _ st5 b hb
       exact(N7.inv.pin (b,o) (Zx _ (Zx _ (XX hb e)))).2.1
     cases eb:mb σg hgg with
     | next σ7i h7 =>
      rw[eb] at K3
      exact λ s7 σ7 H7 ι7 N7 n7=>again N7 n7 K3
     | cont σ7i h7 =>
      rw[eb] at K3
      exact λ s7 σ7 H7 ι7 N7 n7=>again N7 n7 K3
     | brk σ7i h7 =>
      rw[eb] at K3
      exact λ s7 σ7 H7 ι7 N7 n7=>K3 s7 σ7 H7 ι7 N7.pins ((n5.trans n6).trans n7)
     | ret v h7 =>
      rw[eb] at K3
      exact λ u s7 σ7i σ7 H7 ι7 N7 n7 r=>K3 u s7 σ7i σ7 H7 ι7 N7.pins ((n5.trans n6).trans n7) r
     | exc n σ7i h7 =>
      rw[eb] at K3
      dsimp only at K3
      cases hj:h7[n]? with
      | none=>rw[hj] at K3;exact Zf K3
      | some ob =>
       cases ob with
       | exc c fs =>
        rw[hj] at K3
        intro pl a s7 σ7 H7 ι7 N7 n7 q s8 fl
        obtain⟨C,tv,d,fe,hC,ha,ht⟩:=N7.rel.get hj q
        have back:∀h8,Noted X.env.locals (frs X.stack) a s7.heap h8->Ze6 (Z3 X.prog X.w) X.A X.env E (.ref a) { s7 with heap:=h8 }:=λ h8 n8 =>
         Jhh hf n8 λ h9 n9=>K3 (Qy fp s5.heap++pl) a s7 σ7 H7 ι7 (by rw[<- ZF];exact N7) ((n5.trans n6).trans n7) q _ (.inr ⟨h9,rfl,n9⟩)
        rcases fl with rfl|⟨h8,rfl,n8⟩
        ·exact Jia N7.inv hst hf ha ht back
        ·exact Jdi hf n8 (back h8 n8)
       | _=>rw[hj] at K3;exact Zf K3
     | stuck=>rw[eb] at K3;exact Zf K3
    | _=>rw[eg] at K3;exact Zf K3
   ·exact Zf K3
  ·have hke:I.xs.drop k=[]:=ZcN (by omega)
   rw[hke] at K3
   unfold JY at K3
   split at K3
   ·rename_i hck
    have stop:=OK.stop k hk H3 ιk n3 N3.rel hck (by omega)
    refine nof (thn (T.done X rfl rfl rfl hc k pj s3 σ3 H3 (λ _ _=>False) N3.inv (stat fr3) st3 stop) λ r s4 ⟨hr,I4⟩=>?_)
    subst hr
    exact ZbU (K3 s4 σ3 H3 ιk ⟨I4,N3.rel,N3.st⟩ .refl)
   ·exact Zf K3
noncomputable def itOf:IV->IH->Res ItI
 | .ref i,h=>match h[i]? with
  | some (.lst xs)=>.ok ⟨xs,λ h'=>h'[i]?=Za (.lst xs)⟩ h
  | _=>.stuck
 | .rol xs,h=>.ok ⟨xs,λ _=>True⟩ h
 | .tup xs,h=>.ok ⟨xs,λ _=>True⟩ h
 | _,_=>.stuck
def iVal (e:E1):I1:=λ σ h=>(e σ h).bind itOf
variable {tg:Expr}
theorem Juv {a:Zj}{i:Nat}{xs:List IV}{ι:List Zj}{H₀:Hp}(ha:ι[i]?=Za a):ItOk ce X.K ι H₀ (Itl X.K a) ⟨xs,λ h'=>h'[i]?=Za (.lst xs)⟩:=by
 refine⟨λ k x h H ι' hp R hck hx=>?_,λ k h H ι' hp R hck hx=>?_⟩
 ·obtain⟨vs,e1,r1⟩:=R.get hck (hp.at ha)
  obtain⟨v,hv,qv⟩:=r1.get hx
  refine⟨⟨vs,v,SqL.of e1,hv⟩,λ y H' hy=>?_⟩
  obtain⟨rfl,hy⟩:=hy
  have:=hy vs (SqL.of e1)
  rw[hv] at this
  cases this
  exact⟨R,.refl,qv⟩
 ·obtain⟨vs,e1,r1⟩:=R.get hck (hp.at ha)
  exact⟨vs,SqL.of e1,by rw[r1.length];exact hx⟩
theorem Jzs {a:Zj}{xs:List IV}{vs:List V}{ι:List Zj}{H₀:Hp}(sa:SqR X.K H₀ a vs)(ra:RVs X.K ι H₀ xs vs):ItOk ce X.K ι H₀ (Itl X.K a) ⟨xs,λ _=>True⟩:=by
 refine⟨λ k x h H ι' hp R hck hx=>?_,λ k h H ι' hp R hck hx=>?_⟩
 ·obtain⟨v,hv,qv⟩:=ra.get hx
  have sq:=(hp.ext.sqR sa).sq
  refine⟨⟨vs,v,sq,hv⟩,λ y H' hy=>?_⟩
  obtain⟨rfl,hy⟩:=hy
  have:=hy vs sq
  rw[hv] at this
  cases this
  exact⟨R,.refl,RV.mono hp _ _ qv⟩
 ·exact⟨vs,(hp.ext.sqR sa).sq,by rw[ra.length];exact hx⟩
theorem Jzt {a:Zj}{xs:List IV}{vs:List V}{ι:List Zj}{H₀:Hp}(sa:SqT X.K H₀ a vs)(ra:RVs X.K ι H₀ xs vs):ItOk ce X.K ι H₀ (Itt X.K a) ⟨xs,λ _=>True⟩:=by
 refine⟨λ k x h H ι' hp R hck hx=>?_,λ k h H ι' hp R hck hx=>?_⟩
 ·obtain⟨v,hv,qv⟩:=ra.get hx
  have sq:=hp.ext.sqT sa
  refine⟨⟨vs,v,sq,hv⟩,λ y H' hy=>?_⟩
  obtain⟨rfl,hy⟩:=hy
  have:=hy vs sq
  rw[hv] at this
  cases this
  exact⟨R,.refl,RV.mono hp _ _ qv⟩
 ·exact⟨vs,hp.ext.sqT sa,by rw[ra.length];exact hx⟩
theorem Jpo {l:Expr}{ml:E1}(hl:PEi ce X l ml):PIi ce X tg l (iVal ml):=by
 intro pj s σ H ι σi h Q E N K
 refine hl pj s σ H ι σi h _ E N ?_
 unfold iVal at K
 cases e0:ml σi h with
 | exc n h'=>rw[e0] at K;exact K
 | stuck=>rw[e0] at K;exact K
 | ok v h' =>
  rw[e0] at K
  intro u s1 H1 ι1 N1 n1 r1
  obtain⟨w,rw',q⟩:=r1
  have Zeg:∀b∈[s1.heap.objs.size],FpOk X pj H1 b:=λ b hb=>by
   have e:b=s1.heap.objs.size:=by simpa using hb
   subst e
   exact N1.inv.fpOk (Zr _) (N1.inv.hok.fresh (Zr _))
  cases v with
  | ref i =>
   obtain⟨a,e1,ha⟩:=q
   subst e1
   cases rw'
   cases hi:h'[i]? with
   | none=>simp only[Res.bind,itOf,hi] at K
   | some o =>
    cases o with
    | lst xs =>
     simp only[Res.bind,itOf,hi] at K
     obtain⟨vs,e1,r1⟩:=N1.at hi ha
     obtain⟨its,rv,p,hz⟩:=N1.inv.list (SqL.of e1)
     refine ZaZ p.isList (K _ _ H1 ι1 ⟨N1.inv.kept (t':=s1.toks) λ b o e=>Zi _ e,N1.rel,N1.st⟩ n1 ?_)
     exact⟨s1.heap.objs.size,[s1.heap.objs.size],_,Itl X.K a,rfl,Yd a _,⟨_,Z1 _ rfl,rfl,rfl⟩,Zeg,Juv ha⟩
    | _=>simp only[Res.bind,itOf,hi] at K
  | rol xs =>
   obtain⟨a,vs,e1,sa,ra⟩:=q
   subst e1
   cases rw'
   simp only[Res.bind,itOf] at K
   obtain⟨its,rv,p,hz⟩:=N1.inv.list sa.sq
   refine ZaZ p.isList (K _ _ H1 ι1 ⟨N1.inv.kept (t':=s1.toks) λ b o e=>Zi _ e,N1.rel,N1.st⟩ n1 ?_)
   exact⟨s1.heap.objs.size,[s1.heap.objs.size],_,Itl X.K a,rfl,Yd a _,⟨_,Z1 _ rfl,rfl,rfl⟩,Zeg,Jzs sa ra⟩
  | tup xs =>
   obtain⟨a,vs,e1,sa,ra⟩:=q
   subst e1
   cases rw'
   simp only[Res.bind,itOf] at K
   obtain⟨its,rv,p,hz⟩:=N1.inv.tuple sa
   refine wpAny_pyIter_tuple (show s1.heap.IsTuple a its.toArray from p) (K _ _ H1 ι1 ⟨N1.inv.kept (t':=s1.toks) λ b o e=>Zi _ e,N1.rel,N1.st⟩ n1 ?_)
   exact⟨s1.heap.objs.size,[s1.heap.objs.size],_,Itt X.K a,rfl,Jn4 a _,⟨_,Z1 _ rfl,rfl,rfl⟩,Zeg,Jzt sa ra⟩
  | _=>simp only[Res.bind,itOf] at K
noncomputable def rngI (lo hi:Int):List IV:=(Z8 (hi-lo).toNat).map λ k=>.int (lo+(k:Nat))
def JR:List IV->IH->Res ItI
 | [.int j],h=>if -(2^62)<=j/\j<2^62 then .ok ⟨rngI 0 j,λ _=>True⟩ h else .stuck
 | _,_=>.stuck
def Vx:List IV->IH->Res ItI
 | [.int i,.int j],h=>if -(2^62)<=i/\i<2^62/\ -(2^62)<=j/\j<2^62 then .ok ⟨rngI i j,λ _=>True⟩ h else .stuck
 | _,_=>.stuck
theorem Jjp {vs:List IV}{h:IH}(hv:¬ ∃i j,vs=[.int i,.int j]):Vx vs h=.stuck:=by
 unfold Vx
 split
 ·exact absurd ⟨_,_,rfl⟩ hv
 ·rfl
def iRg (f:List IV->IH->Res ItI)(a:A1):I1:=λ σ h=>(a σ h).bind f
theorem J0o {lo hi:Int}{ι:List Zj}{H₀:Hp}:ItOk ce X.K ι H₀ (Itr lo (hi-lo).toNat) ⟨rngI lo hi,λ _=>True⟩:=by
 refine⟨λ k x h H ι' hp R hck hx=>?_,λ k h H ι' hp R hck hx=>?_⟩
 ·have hk:k<(hi-lo).toNat:=by
   have:=(Zo.mp hx).1
   simpa [rngI] using this
  refine⟨hk,λ y H' hy=>?_⟩
  obtain⟨rfl,rfl⟩:=hy
  simp only[rngI,Z7,List.getElem?_range hk] at hx
  cases hx
  exact⟨R,.refl,rfl⟩
 ·have:(rngI lo hi).length=(hi-lo).toNat:=by simp[rngI]
  show(hi-lo).toNat<=k
  rw[<- this]
  exact hx
theorem Jjy {pj:PnT}{σ:L2.St}{H:Hp}{ι:List Zj}{σi:ISt}{h:IH}{s:Zk}{Q:QvT}{E:QvT}{lo hi:Int}{t u v:Tok}{tk:Nat}(N:Now ce X pj ι σi h σ H s)
  (h1: -(2^62)<=lo)(h2:lo<2^62)(h3: -(2^62)<=hi)(h4:hi<2^62)
  (K:∀itv s' H' ι',Now ce X pj ι' σi h σ H' s'->Nxt ι H ι' H'->RIt ce X tg pj ι' ⟨rngI lo hi,λ _=>True⟩ itv s' H'->Q itv s') :
  Zt (Z3 X.prog X.w) X.A (Ze4 (.ref s.heap.objs.size)) Q E { s with heap:=s.heap.push { cls:=.type "range",data:=.fields #[.int lo t,.int hi u,.int 1 v] },toks:=tk }:=by
 have:=Jtg (X:=X) (tg:=tg) (E:=E) (R:=λ J H'=>J=Itr lo (hi-lo).toNat/\H'=H) (t:=t) (u:=u) (v:=v) (tk:=tk) N.inv h1 h2 h3 h4 ⟨rfl,rfl⟩
 refine ZP this (λ itv s' hq=>?_) λ _ _ z=>z
 obtain⟨it,fp,tn,J,H',e,I',T,st,f,rfl,rfl⟩:=hq
 exact K itv s' _ ι ⟨I',N.rel,N.st⟩ .refl ⟨it,fp,tn,_,e,T,st,f,J0o⟩
theorem Jsm {a:Expr}{ma:A1}{p pos:Pos}(hg:Gl X "range")(hm:X.mg "range"=Zc)(ha:PAi ce X [a] ma)(hs:Z9 [a] X.env=[(Zh,ZaQ a X.env)]:=by rfl):PIi ce X tg (.Call (.Name "range" p) [a] [] pos) (iRg JR ma):=by
 intro pj s σ H ι σi h Q E N K
 refine Call_ (Qf N.inv hg hm boot_range (Zah ?_ hs rfl))
 refine ha pos pj s σ H ι σi h _ E N ?_
 unfold iRg at K
 cases e0:ma σi h with
 | exc n h'=>rw[e0] at K;exact K
 | stuck=>rw[e0] at K;exact K
 | ok vs h' =>
  rw[e0] at K
  intro us s1 H1 ι1 N1 n1 r1
  obtain⟨xs,rv,qs⟩:=r1
  match vs,K with
  | [.int j],K =>
   obtain⟨w,r,e1,q,q2⟩:=qs
   have e2:r=[]:=q2
   subst e1 e2
   have e3:w=.int j:=q
   subst e3
   cases rv with
   | cons r rr =>
    cases rr
    obtain⟨t,rfl⟩:=r
    simp only[Res.bind,JR] at K
    by_cases hb: -(2^62)<=j/\j<2^62
    ·rw[if_pos hb] at K
     exact call_range_1 (Jjy N1 (by omega) (by omega) hb.1 hb.2 λ itv s' H' ι' N' n' R=>K itv s' H' ι' N' (n1.trans n') R)
    ·rw[if_neg hb] at K
     exact K.elim
  | [],K=>exact Zf K
  | .non::_,K=>exact Zf K
  | .bl _::_,K=>exact Zf K
  | .str _::_,K=>exact Zf K
  | .tup _::_,K=>exact Zf K
  | .rol _::_,K=>exact Zf K
  | .ref _::_,K=>exact Zf K
  | .int _::_::_,K=>exact Zf K
theorem Jsn {a b:Expr}{ma:A1}{p pos:Pos}(hg:Gl X "range")(hm:X.mg "range"=Zc)(ha:PAi ce X [a,b] ma)(hs:Z9 [a,b] X.env=[(Zh,ZaQ a X.env),(Zh,ZaQ b X.env)]:=by rfl)(hs2:Z9 [b] X.env=[(Zh,ZaQ b X.env)]:=by rfl) :
  PIi ce X tg (.Call (.Name "range" p) [a,b] [] pos) (iRg Vx ma):=by
 intro pj s σ H ι σi h Q E N K
 refine Call_ (Qf N.inv hg hm boot_range (Zah ?_ (by rw[hs,hs2]) (by rw[hs2];rfl)))
 refine ha pos pj s σ H ι σi h _ E N ?_
 unfold iRg at K
 cases e0:ma σi h with
 | exc n h'=>rw[e0] at K;exact K
 | stuck=>rw[e0] at K;exact K
 | ok vs h' =>
  rw[e0] at K
  intro us s1 H1 ι1 N1 n1 r1
  obtain⟨xs,rv,qs⟩:=r1
  by_cases hv:∃i j,vs=[.int i,.int j]
  ·obtain⟨i,j,rfl⟩:=hv
   obtain⟨w,r,e1,q,w',r',e1',q',q2⟩:=qs
   have e2:r'=[]:=q2
   subst e1 e1' e2
   have e3:w=.int i:=q
   have e4:w'=.int j:=q'
   subst e3 e4
   cases rv with
   | cons r rr =>
    cases rr with
    | cons r' rr =>
     cases rr
     obtain⟨t,rfl⟩:=r
     obtain⟨t',rfl⟩:=r'
     simp only[Res.bind,Vx] at K
     by_cases hb: -(2^62)<=i/\i<2^62/\ -(2^62)<=j/\j<2^62
     ·rw[if_pos hb] at K
      exact call_range_2 (Jjy N1 hb.1 hb.2.1 hb.2.2.1 hb.2.2.2 λ itv s' H' ι' N' n' R=>K itv s' H' ι' N' (n1.trans n') R)
     ·rw[if_neg hb] at K
      exact K.elim
  ·simp only[Res.bind,Jjp hv] at K
end
end L3
namespace L3
open PySem PySem.Spec PySem.Calls PyProof.Rows L2
section
variable {prog:ZA}{w:ZM}{A:ZG}{E:QvT}{s:Zk}{K:W.Frag}{x D:Zj}{ox:Obj}
open PySem.W PySem.Builtin PySem.Builtin.ObjectAttr PySem.Builtin.Getset_descriptor in
theorem J1h {tp:Ze}{R:ZdA->Zk->Prop}(X:K.In s.heap)(hx:s.heap.get? x=Za ox)(hcl:ox.cls=.ref D)(hm:mroIn K D (.type "object")=Za Zd)(k:R (.ok (.ret (.ref D))) s) :
  ZbZ (Z3 prog w) A (.call (.builtin "getset_descriptor.__get__") ⟨[.builtin "object.__class__",.ref x,tp],[]⟩) R s:=by
 obtain⟨hh,g,d,t,os⟩:=s
 have L0:Looks (Z3 prog w) hh (Ze7 (.ref x)) (.ref D):=hcl▸(Looks.ld hx).andThen .now
 have L5:=looks_mroIn (M:=Z3 prog w) X hm
 have sl:=KF.slot_gs
 refine ZbF sl.plain KF.entry_gs (sl.check _ _ _ _ _ _ _ _ KF.type_class (KF.args_gs _ _ _) ?_)
 unfold ZcO.«getset_descriptor.__get__»
 unfold descrGet
 rw[dga_obj]
 apply Zg
 apply Zv
 unfold descrGetter descrCheckInstance
 unfold descrNameAndClass Ze8
 simp only[KF.owner_class]
 repeat lk
 have quiet:=Zc7 (id:="object.__class__") ⟨[.ref x],[]⟩ (by decide +kernel)
 refine⟨quiet,ZaH KF.entry_class ?_⟩
 unfold ZcO.«object.__class__»
 unfold shownTypeOf
 repeat lk
 exact k
theorem Jud {tk:Tok}{Q:Fin->Zk->Prop}(X:K.In s.heap)(hx:s.heap.get? x=Za ox)(hcl:ox.cls=.ref D)(hc:W.findIn K (.ref D) "__class__"=Za (Za (.builtin "object.__class__")))(hm:W.mroIn K D (.type "object")=Za Zd)
  (hq:Q (.done (.ret (.ref D))) s):Zt (Z3 prog w) A (ZcO.«object.__getattribute__» ⟨[.ref x,.str "__class__" tk],[]⟩) Q E s:=by
 obtain⟨hh,g,d,t,os⟩:=s
 have L0:W.Looks (Z3 prog w) hh (Ze7 (.ref x)) (.ref D):=hcl▸(W.Looks.ld hx).andThen .now
 have L2:=W.looks_findIn (M:=Z3 prog w) X hc
 have hT5:(⟨hh,g,d,t,os⟩:Zk).TypeIs (.builtin "object.__class__") "getset_descriptor":=F.typeOf_object_class
 have f5:=F.typeOf_object_class
 have f6:=F.slot_gs_get.lookup
 have f7:=F.slot_gs_set.lookup
 repeat (any_goals (first|assumption|with_reducible refine L0.at ?_|with_reducible refine L2.at ?_|wp_step))
 refine J1h (s:=⟨hh,g,d,t,os⟩) X hx hcl hm ?_
 repeat (any_goals (first|assumption|wp_step))
theorem Juc {v:Ze}{Q:Unit->Zk->Prop}{M:ZeB}(X:K.In s.heap)(hx:s.heap.get? x=Za ox)(hcl:ox.cls=.ref D)(hb:W.mroIn K D (.type "BaseException")=Za Zd)(hq:Q () s):Zt M A (checkBuiltinCall "BaseException.__getattribute__" ⟨[.ref x,v],[]⟩) Q E s:=by
 obtain⟨hh,g,d,t,os⟩:=s
 have L0:W.Looks M hh (Ze7 (.ref x)) (.ref D):=hcl▸(W.Looks.ld hx).andThen .now
 have L3:=W.looks_mroIn (M:=M) X hb
 have k1:builtinKind "BaseException.__getattribute__"=Za .slot:=by decide +kernel
 have k2:splitId "BaseException.__getattribute__"=Za ("BaseException","__getattribute__"):=by decide +kernel
 have k3:=F.args_bexc_ga (.ref x) v
 simp only[checkBuiltinCall,k1,k2]
 refine Zg ?_
 unfold Ze8
 repeat (first|with_reducible refine L0.at ?_|with_reducible refine L3.at ?_|wp_step)
 exact hq
theorem J24 {tk:Tok}{Q:QvT}(X:K.In s.heap)(hx:s.heap.get? x=Za ox)(hcl:ox.cls=.ref D)(hg:W.findIn K (.ref D) "__getattribute__"=Za (Za (.builtin "BaseException.__getattribute__")))(hb:W.mroIn K D (.type "BaseException")=Za Zd)(hn:W.findIn K (.ref D) "__getattr__"=Za Zc)
  (hc:W.findIn K (.ref D) "__class__"=Za (Za (.builtin "object.__class__")))(hm:W.mroIn K D (.type "object")=Za Zd)(hq:Q (.ref D) s):Zt (Z3 prog w) A (getAttrBy (.ref x) (.str "__class__" tk) Zh) Q E s:=by
 obtain⟨hh,g,d,t,os⟩:=s
 have L0:W.Looks (Z3 prog w) hh (Ze7 (.ref x)) (.ref D):=hcl▸(W.Looks.ld hx).andThen .now
 have L1:=W.looks_findIn (M:=Z3 prog w) X hg
 have L4:=W.looks_findIn (M:=Z3 prog w) X hn
 have f3:=F.attr_ValueError.ga.bind (.ref x)
 have hx2:(ZdD "BaseException.__getattribute__"==ZdD "object.__getattribute__")=Zh:=by decide +kernel
 have hx1:(onTheHeap (ZaI D)&&ZdD "BaseException.__getattribute__"==ZdD "object.__getattribute__")=Zh:=by rw[hx2];rfl
 repeat (any_goals (first|assumption|with_reducible refine L0.at ?_|with_reducible refine L1.at ?_|with_reducible refine L4.at ?_|wp_step))
 refine ZbF F.attr_ValueError.ga.plain F.entry_bexc_ga (Juc (s:=⟨hh,g,d,t,os⟩) X hx hcl hb (Jud (s:=⟨hh,g,d,t,os⟩) X hx hcl hc hm ?_))
 repeat (any_goals (first|assumption|wp_step))
theorem Jyp {Q:Option Ze->Zk->Prop}(X:K.In s.heap)(hx:s.heap.get? x=Za ox)(hcl:ox.cls=.ref D)(hg:W.findIn K (.ref D) "__getattribute__"=Za (Za (.builtin "BaseException.__getattribute__")))(hb:W.mroIn K D (.type "BaseException")=Za Zd)(hn:W.findIn K (.ref D) "__getattr__"=Za Zc)
  (hc:W.findIn K (.ref D) "__class__"=Za (Za (.builtin "object.__class__")))(hm:W.mroIn K D (.type "object")=Za Zd)(hq:Q (Za (.ref D)) { s with toks:=s.toks+1 }):Zt (Z3 prog w) A (getAttr? (.ref x) "__class__") Q E s:=by
 obtain⟨hh,g,d,t,os⟩:=s
 unfold getAttr? getAttrBy?
 refine Zg (wpAny_mkText (Zg (Ze1 (J24 (s:=⟨hh,g,d,t+1,os⟩) X hx hcl hg hb hn hc hm ?_))))
 exact Zv hq
end
structure ExI (K:W.Frag)(C:Zj):Prop where
 ga:W.findIn K (.ref C) "__getattribute__"=Za (Za (.builtin "BaseException.__getattribute__"))
 mb:W.mroIn K C (.type "BaseException")=Za Zd
 gn:W.findIn K (.ref C) "__getattr__"=Za Zc
 ca:W.findIn K (.ref C) "__class__"=Za (Za (.builtin "object.__class__"))
 mo:W.mroIn K C (.type "object")=Za Zd
 hd:W.hasDictIn K C=Zd
theorem ExI.at_ {K:W.Frag}{C:Zj}(e:ExI K C):∃c d cd sl,K.lookup C=Za ⟨c,d,.cls cd,sl⟩:=by
 obtain⟨cd,hc,_⟩:=W.any_some e.hd
 unfold W.clsIn at hc
 split at hc
 case h_2=>cases hc
 rename_i c d cd' sl ho
 exact⟨c,d,cd',sl,ho⟩
theorem Jl1 {K:W.Frag}{x D:Zj}(e:ExI K D):W.KitX K (.ref x) (.ref D) (λ h=>∃ox,h.get? x=Za ox/\ox.cls=.ref D) where
 ty:=λ _ _ _ ⟨ox,hx,hc⟩=>hc▸(W.Looks.ld hx).andThen .now
 it:=λ _ _ X _=>by
  obtain⟨c,d,cd,sl,ho⟩:=e.at_
  intro A' Q' E' s' kp q
  unfold isType
  unfold loadHead
  exact Zg (Zeo (kp _ _ (X D _ ho)) (Zv q))
 ne:=λ h tp dd its n sl X htp=>by
  obtain⟨c,d,cd,sl',ho⟩:=e.at_
  rw[Zba]
  intro q
  cases (Value.ref.inj (beq_iff_eq.mp q))
  have z:=(X D _ ho).symm.trans htp
  cases z
 ca:=λ X ⟨ox,hx,hc⟩ k=>Jyp X hx hc e.ga e.mb e.gn e.ca e.mo k
end L3
namespace L3
open PySem PySem.Spec PyProof.Rows L2
def V3 (n:Nat)(vs:List IV):ISt:=vs.map Za++ZO (n-vs.length) Zc
noncomputable def SRes.fin (r:SRes):Res IV:=match r with
 | .next _ h'=>.ok .non h'
 | .ret v h'=>.ok v h'
 | .exc n _ h'=>(match h'[n]? with
  | some (.exc _ _)=>.exc n h'
  | _=>.stuck)
 | _=>.stuck
noncomputable def fnI (n:Nat)(m:S1):List IV->IH->Res IV:=λ vs h=>(m (V3 n vs) h).fin
def spI (ce:CeT)(K:W.Frag)(ps:List Str)(f:List IV->IH->Res IV):Sp:=λ vs H Q E =>
 vs.length=ps.length/\∃ι h ivs,Rel ce K ι h H/\RVs K ι H ivs vs /\
  match f ivs h with
  | .ok v h'=>∀x H' ι',Rel ce K ι' h' H'->Nxt ι H ι' H'->RV K ι' H' v x->Q x H'
  | .exc n h'=>∀a H' ι',Rel ce K ι' h' H'->Nxt ι H ι' H'->ι'[n]?=Za a->E (.ref a) Zc H'
  | .stuck=>False
theorem RVs.start {K:W.Frag}{ι:List Zj}{H:Hp}{N:List Str}{ivs:List IV}{vs:List V}(r:RVs K ι H ivs vs):RSt K ι H (V3 N.length ivs) (L2.start N vs):=by
 have hl:=r.length
 refine⟨by simp[V3,L2.start,hl],λ j v e=>?_⟩
 unfold V3 at e
 unfold L2.start
 by_cases hj:j<ivs.length
 ·rw[ZC (by simpa using hj),Z7] at e
  rw[ZC (by simp;omega),Z7]
  cases e1:ivs[j]? with
  | none=>rw[e1] at e;cases e
  | some w =>
   rw[e1] at e
   cases e
   obtain⟨u,hu,q⟩:=r.get e1
   exact⟨u,by rw[hu];rfl,q⟩
 ·rw[Z4 (by simpa using hj),ZbL] at e
  split at e<;>cases e
theorem Jij {α:Type}:∀{l:List α}{i:Nat}{x:α},l[i]?=Za x->l.set i x=l
 | [],_,_,e=>by simp at e
 | a::l,0,x,e=>by cases e;rfl
 | a::l,i+1,x,e=>by
  show a::l.set i x=a::l
  rw[Jij (l:=l) e]
theorem Vm {ce:CeT}{K:W.Frag}{ι:List Zj}{h:IH}{H:Hp}{i:Nat}{o:IX}{a:Zj}(R:Rel ce K ι h H)(e:h[i]?=Za o)(q:ι[i]?=Za a):RO ce K ι H a o:=by
 obtain⟨b,e1,r⟩:=R.at_ i o e
 rw[q] at e1
 cases e1
 exact r
structure FunD (K:W.Frag)(x qual:Str)(st:Zb2)(f:Zj)(fd:Zap)(dV:Ze):Prop where
 ex:∃(oc:Ze)(od:Option Zj)(kV doc pm:Ze)(an:Option Zj)(cdv ct:Ze)(osl:Array (Option Ze)),
  fd=W.fnOf x qual (Qi st) (JG st) (Jy st) dV kV doc pm an cdv ct/\K.lookup f=Za ⟨oc,od,.func fd,osl⟩/\W.codeIn K cdv qual=Zd
 kp:W.keepIn K (.ref f)=Zd
section
variable {P:ZA}{w:ZM}{K:W.Frag}{mg:Str->Option Ze}{base:ZZ}{ce:CeT}
theorem FunD.fn {x qual:Str}{st:Zb2}{f:Zj}{fd:Zap}{dV:Ze}{N ps:List Str}{k n:Nat}{m:S1}(F:FunD K x qual st f fd dV)(S:FnScope N ps (Jy st))
  (hbody:∀(cdv:Ze)(A:ZG)(outer:List Env)(s:Zk)(H:Hp)(E:XK),W.codeIn K cdv qual=Zd->Room k (A.deeper (ZcW qual (Jy st) s.heap.objs.size f cdv))->PS2 ce (cxOf (CXI P w) P w K mg base N qual (Jy st) f cdv A outer s H E).nox (JG st) m)(hn:N.length=n:=by rfl) :
  FnOk P w K mg base (CXI P w) (k+1) f fd ps (spI ce K ps (fnI n m)):=by
 subst hn
 obtain⟨oc,od,kV,doc,pm,an,cdv,ct,osl,rfl,lk,hcd⟩:=F.ex
 refine Jy5 lk hcd S (λ vs H Q E h=>h.1) λ A outer s H vs Q E hr hsp=>?_
 obtain⟨hl,ι,h,ivs,R,rv,hk⟩:=hsp
 refine⟨λ D σ H=>∃ι σi h,Rel ce K ι h H/\RSt K ι H σi σ/\match m σi h with
  | .next σi' h'=>∀σ' H' ι',Rel ce K ι' h' H'->RSt K ι' H' σi' σ'->Nxt ι H ι' H'->D.nx σ' H'
  | .ret v h'=>∀x H' ι',Rel ce K ι' h' H'->Nxt ι H ι' H'->RV K ι' H' v x->D.rt x H'
  | .exc n _ h'=>(∃c fs,h'[n]?=Za (.exc c fs))/\∀a H' ι',Rel ce K ι' h' H'->Nxt ι H ι' H'->ι'[n]?=Za a->E (.ref a) Zc H'
  | _=>False,λ pj s' σ' H' D I ht=>?_,ι,V3 N.length ivs,h,R,rv.start,?_⟩
 ·obtain⟨ι,σi,h,R,rs,hm⟩:=ht
  refine ZP (hbody cdv A outer s H E hcd hr pj s' σ' H' ι σi h (SP _ pj D) _ ⟨I.wish _,R,rs⟩ ?_) (λ _ _ z=>z) (λ _ _ z=>z)
  cases e:m σi h with
  | next σ2 h2 =>
   rw[e] at hm
   exact λ s3 σ3 H3 ι3 N3 n3=>⟨σ3,H3,N3.inv.unwish,hm σ3 H3 ι3 N3.rel N3.st n3⟩
  | ret v h2 =>
   rw[e] at hm
   exact λ u s3 σ3i σ3 H3 ι3 N3 n3 ⟨z,rz,q⟩=>⟨z,σ3,H3,N3.inv.unwish,rz,hm z H3 ι3 N3.rel n3 q⟩
  | exc j σ2 h2 =>
   rw[e] at hm
   obtain⟨⟨c,fs,hj⟩,hm⟩:=hm
   intro pl a s3 σ3 H3 ι3 N3 n3 hi s4 fl
   have I3:=N3.inv.unwish
   obtain⟨C,tv,d,fe,hC,ha,ht⟩:=Vm N3.rel hj hi
   refine Jp3 I3 fl rfl rfl ha ht λ T oT h' p=>?_
   have nl:s.heap.get? s.heap.objs.size=Zc:=Zcf (Zr _)
   obtain⟨R4,n4⟩:=N3.rel.grow (o:=.frz oT (.own 0)) p.new
   have ha4:upd H3 T (.frz oT (.own 0)) a=Za (ExF a C tv d):=by rw[Jl (ZT p.ne)];exact ha
   obtain⟨R5,n5⟩:=R4.write hi ha4 (by rw[ha4];trivial) (o:=ExF a C (.ref T) d) (io:=.exc c fs) ⟨C,.ref T,d,fe.mono p.un.frzs,hC,Jw,.inr ⟨T,oT,_,rfl,by rw[Jl p.ne,Jw],p.fld.choose_spec⟩⟩
   rw[Jij hj] at R5
   exact⟨_,I3.os,I3.bare,Un.tail I3.base p.un nl,p.hok,hm a _ ι3 R5 ((n3.trans n4).trans n5) hi⟩
  | _=>rw[e] at hm;exact hm.elim
 ·unfold fnI SRes.fin at hk
  cases e:m (V3 N.length ivs) h with
  | next σ2 h2 =>
   rw[e] at hk
   exact λ σ3 H3 ι3 R3 _ n3=>hk .non H3 ι3 R3 n3 rfl
  | ret v h2 =>
   rw[e] at hk
   exact hk
  | exc j σ2 h2 =>
   rw[e] at hk
   dsimp only at hk
   cases q:h2[j]? with
   | none=>rw[q] at hk;exact hk.elim
   | some o =>
    cases o with
    | exc c fs=>rw[q] at hk;exact⟨⟨c,fs,q⟩,hk⟩
    | _=>rw[q] at hk;exact hk.elim
  | _=>rw[e] at hk;exact hk.elim
end
noncomputable def Res.nx {α:Type}:Res α->Res α
 | .ok a h=>.ok a h
 | _=>.stuck
def Jn (f:List IV->IH->Res IV)(dvs:List IV)(a:A1):E1:=λ σ h=>(a σ h).bind λ vs h1=>f (vs++dvs) h1
def QK (c:Str)(f:List IV->IH->Res IV)(dvs:List IV)(a:A1):E1:=λ σ h=>(a σ h).bind λ vs h1=>(f (.ref h1.length::(vs++dvs)) (h1++[.ins c []])).bind λ r h2=>match r with
 | .non=>.ok (.ref h1.length) h2
 | _=>.stuck
def Jr6 (m:Str)(disp:Str->Option ((List IV->IH->Res IV)×List IV))(o:E1)(a:A1):E1:=λ σ h=>(o σ h).bind λ v h1=>match v with
 | .ref i=>(match h1[i]? with
  | some (.ins c fs)=>(match disp c,fs.lookup m with
   | some (f,dvs),Zc=>(a σ h1).bind λ vs h2=>f (.ref i::(vs++dvs)) h2
   | _,_=>.stuck)
  | _=>.stuck)
 | _=>.stuck
section
variable {ce:CeT}{X:Cx}{k:Nat}{fa C:Zj}{fd:Zap}{ps:List Str}{f:List IV->IH->Res IV}{dvs:List IV}{ds:List Ze}{x m:Str}{p pos apos:Pos}{e o:Expr}{es:List Expr}{mo:E1}{ma:A1}
theorem RUs.vals {K:W.Frag}{ι:List Zj}{H:Hp}{xs:List IV}{us:List Ze}(r:RUs K ι H xs us):∃vs,Vals vs us/\RVs K ι H xs vs:=r
theorem Jid {pj:PnT}{σ:L2.St}{H:Hp}{ι:List Zj}{σi:ISt}{h:IH}{s:Zk}{Q:QvT}{E:QvT}{us:List Ze}{xs:List IV}(F:FnOk X.prog X.w X.K X.mg X.base (CXI X.prog X.w) k fa fd ps (spI ce X.K ps f))(hr:Room k X.A)(hb:JI X.K fd ps ds)
  (hd:∃vs,Vals vs ds/\∀ι H,RVs X.K ι H dvs vs)(hlen:us.length+ds.length=ps.length)(N:Now ce X pj ι σi h σ H s)(r:RUs X.K ι H xs us)(K:Kont ce X RU pj ι σi σ H (f (xs++dvs) h) Q E):Zt (Z3 X.prog X.w) X.A (call (.ref fa) us) Q E s:=by
 obtain⟨vs,rv,q⟩:=r
 obtain⟨dv,rd,qd⟩:=hd
 have hl1:=rv.length
 have hl2:=rd.length
 refine ZP (Jxe (Q:=λ z H'=>∀u s',Inv X pj σ H' s'->RelV z u->Q u s') (E:=λ v _ H'=>∀s',Inv X pj σ H' s'->E v s') F hr hb rd N.inv rv ⟨by rw[ZD];omega,ι,h,xs++dvs,N.rel,q.append (qd ι H),?_⟩ λ _ s' _ I' z=>z s' I')
  (λ u s' ⟨z,H',I',r',k'⟩=>k' u s' I' r') λ _ _ z=>z
 cases e:f (xs++dvs) h with
 | ok v h' =>
  rw[e] at K
  exact λ z H' ι' R' n' qz u s' I' ru=>K u s' H' ι' ⟨I',R',N.st.mono n'⟩ n' ⟨z,ru,qz⟩
 | exc n h' =>
  rw[e] at K
  exact λ a H' ι' R' n' hi s' I'=>K [] a s' H' ι' ⟨by simpa using I',R',N.st.mono n'⟩ n' hi
 | stuck=>rw[e] at K;exact K
theorem Jzb (F:FnOk X.prog X.w X.K X.mg X.base (CXI X.prog X.w) k fa fd ps (spI ce X.K ps f))(hr:Room k X.A)(hg:Gl X x)(hm:X.mg x=Za (.ref fa))(hk:W.keepIn X.K (.ref fa)=Zd)(hb:JI X.K fd ps ds)(hd:∃vs,Vals vs ds/\∀ι H,RVs X.K ι H dvs vs)
  (ha:PAi ce X (e::es) ma)(hlen:∀σ h xs h',ma σ h=.ok xs h'->xs.length+ds.length=ps.length)(hdb:(x==("__debug__":Str))=Zh:=by decide)(he:Z9 (e::es) X.env=(Zh,ZaQ e X.env)::Z9 es X.env:=by rfl)(hpl:(ZaX pos (Z9 es X.env)).any (·.1)=Zh:=by rfl) :
  PEi ce X (.Call (.Name x p) (e::es) [] pos) (Jn f dvs ma):=by
 intro pj s σ H ι σi h Q E N K
 refine ZQ (QP N.inv hg hm ?_ hdb)
 refine W.callWith_K (h₀:=X.base) N.inv.ok.mod.kin hk ?_ he hpl
 have K':=K
 unfold Jn at K'
 refine ha pos pj s σ H ι σi h _ E N ?_
 cases e0:ma σi h with
 | exc n h'=>rw[e0] at K';exact K'
 | stuck=>rw[e0] at K';exact K'
 | ok xs h' =>
  rw[e0] at K'
  intro us s1 H1 ι1 N1 n1 r1
  have hl:xs.length=us.length:=by
   obtain⟨vs,rv,q⟩:=r1
   rw[<- rv.length,q.length]
  exact⟨N1.inv.kIn,Jid (us:=us) F hr hb hd (by have:=hlen σi h xs h' e0;omega) N1 r1 (Kont.mono (r:=(f (xs++dvs) h')) K' n1)⟩
theorem Jwf (F:FnOk X.prog X.w X.K X.mg X.base (CXI X.prog X.w) k fa fd ps (spI ce X.K ps f))(hr:Room k X.A)(hg:Gl X x)(hm:X.mg x=Za (.ref fa))(hk:W.keepIn X.K (.ref fa)=Zd)(hb:JI X.K fd ps ds)(hd:∃vs,Vals vs ds/\∀ι H,RVs X.K ι H dvs vs)
  (hlen:ds.length=ps.length)(hdb:(x==("__debug__":Str))=Zh:=by decide):PEi ce X (.Call (.Name x p) [] [] pos) (Jn f dvs Jd):=by
 intro pj s σ H ι σi h Q E N K
 refine ZQ (QP N.inv hg hm ?_ hdb)
 exact W.callWith_K0 N.inv.kIn hk (Jid (xs:=[]) F hr hb hd (by simpa using hlen) N .nil K)
theorem Jj1 {c:Str}{pj:PnT}{σ:L2.St}{H:Hp}{ι:List Zj}{σi:ISt}{h:IH}{s:Zk}{Q:QvT}{E:QvT}{us:List Ze}{xs:List IV}(M:Mk X.K C fa)(F:FnOk X.prog X.w X.K X.mg X.base (CXI X.prog X.w) k fa fd ps (spI ce X.K ps f))(hC:ce c=Za C)(hr:Room (k+1) X.A)(hb:JI X.K fd ps ds)
  (hd:∃vs,Vals vs ds/\∀ι H,RVs X.K ι H dvs vs)(hlen:us.length+ds.length+1=ps.length)(N:Now ce X pj ι σi h σ H s)(r:RUs X.K ι H xs us)
  (K:Kont ce X RU pj ι σi σ H ((f (.ref h.length::(xs++dvs)) (h++[.ins c []])).bind λ r h2=>match r with|.non=>.ok (.ref h.length) h2|_=>.stuck) Q E):Zt (Z3 X.prog X.w) X.A (call (.ref C) us) Q E s:=by
 obtain⟨vs,rv,q⟩:=r
 obtain⟨dv,rd,qd⟩:=hd
 have hl1:=rv.length
 have hl2:=rd.length
 refine ZP (Jqj (Q:=λ z H'=>∀u s',Inv X pj σ H' s'->RelV z u->Q u s') (E:=λ v _ H'=>∀s',Inv X pj σ H' s'->E v s') M F hr hb rd N.inv rv (λ x dx hx hdx hne=>⟨by rw[ZB,ZD];omega,?_⟩) λ _ s' _ I' z=>z s' I')
  (λ u s' ⟨z,H',I',r',k'⟩=>k' u s' I' r') λ _ _ z=>z
 -- the new instance in the reading's heap
 obtain⟨R1,n1⟩:=N.rel.grow (o:=.own x) hdx
 have hx1:upd H dx (.own x) x=Zc:=by rw[Jl (ZT hne)];exact hx
 obtain⟨R2,n2⟩:=R1.alloc (o:=.ins C dx []) (io:=.ins c []) hx1 ⟨C,dx,[],hC,Jw,rfl⟩
 have n12:=n1.trans n2
 have hat:(ι++[x])[h.length]?=Za x:=by
  rw[<- N.rel.len,Z4 (Zr _)]
  simp
 refine⟨ι++[x],h++[.ins c []],.ref h.length::(xs++dvs),R2,⟨_,_,rfl,⟨x,rfl,hat⟩,(RVs.mono n12 _ _ q).append (qd _ _)⟩,?_⟩
 cases e:f (.ref h.length::(xs++dvs)) (h++[.ins c []]) with
 | ok v h' =>
  rw[e] at K
  intro z H' ι' R' n' qz
  cases v with
  | non =>
   have ez:z=.non:=qz
   subst ez
   exact⟨rfl,λ u s' I' ru=>K u s' H' ι' ⟨I',R',N.st.mono (n12.trans n')⟩ (n12.trans n') ⟨.ref x,ru,x,rfl,n'.at hat⟩⟩
  | _=>exact Zf K
 | exc n h' =>
  rw[e] at K
  exact λ a H' ι' R' n' hi s' I'=>K [] a s' H' ι' ⟨by simpa using I',R',N.st.mono (n12.trans n')⟩ (n12.trans n') hi
 | stuck=>rw[e] at K;exact Zf K
theorem Jzj {c:Str}(M:Mk X.K C fa)(F:FnOk X.prog X.w X.K X.mg X.base (CXI X.prog X.w) k fa fd ps (spI ce X.K ps f))(hC:ce c=Za C)(hr:Room (k+1) X.A)(hg:Gl X x)(hm:X.mg x=Za (.ref C))(hb:JI X.K fd ps ds)(hd:∃vs,Vals vs ds/\∀ι H,RVs X.K ι H dvs vs)
  (ha:PAi ce X (e::es) ma)(hlen:∀σ h xs h',ma σ h=.ok xs h'->xs.length+ds.length+1=ps.length)(hdb:(x==("__debug__":Str))=Zh:=by decide)(he:Z9 (e::es) X.env=(Zh,ZaQ e X.env)::Z9 es X.env:=by rfl)(hpl:(ZaX pos (Z9 es X.env)).any (·.1)=Zh:=by rfl) :
  PEi ce X (.Call (.Name x p) (e::es) [] pos) (QK c f dvs ma):=by
 intro pj s σ H ι σi h Q E N K
 refine ZQ (QP N.inv hg hm ?_ hdb)
 refine W.callWith_K (h₀:=X.base) N.inv.ok.mod.kin M.kp ?_ he hpl
 have K':=K
 unfold QK at K'
 refine ha pos pj s σ H ι σi h _ E N ?_
 cases e0:ma σi h with
 | exc n h'=>rw[e0] at K';exact K'
 | stuck=>rw[e0] at K';exact K'
 | ok xs h' =>
  rw[e0] at K'
  intro us s1 H1 ι1 N1 n1 r1
  have hl:xs.length=us.length:=by
   obtain⟨vs,rv,q⟩:=r1
   rw[<- rv.length,q.length]
  exact⟨N1.inv.kIn,Jj1 (us:=us) M F hC hr hb hd (by have:=hlen σi h xs h' e0;omega) N1 r1 (Kont.mono (r:=(f (IV.ref h'.length::(xs++dvs)) (h'++[.ins c []])).bind λ r h2=>match r with|IV.non=>Res.ok (IV.ref h'.length) h2|_=>Res.stuck) K' n1)⟩
theorem Jwk {c:Str}(M:Mk X.K C fa)(F:FnOk X.prog X.w X.K X.mg X.base (CXI X.prog X.w) k fa fd ps (spI ce X.K ps f))(hC:ce c=Za C)(hr:Room (k+1) X.A)(hg:Gl X x)(hm:X.mg x=Za (.ref C))(hb:JI X.K fd ps ds)(hd:∃vs,Vals vs ds/\∀ι H,RVs X.K ι H dvs vs)
  (hlen:ds.length+1=ps.length)(hdb:(x==("__debug__":Str))=Zh:=by decide):PEi ce X (.Call (.Name x p) [] [] pos) (QK c f dvs Jd):=by
 intro pj s σ H ι σi h Q E N K
 refine ZQ (QP N.inv hg hm ?_ hdb)
 exact W.callWith_K0 N.inv.kIn M.kp (Jj1 (xs:=[]) M F hC hr hb hd (by simpa using hlen) N .nil K)
def Jn6 (ce:CeT)(X:Cx)(m:Str)(n:Nat)(disp:Str->Option ((List IV->IH->Res IV)×List IV)):Prop :=
 ∀c f dvs,disp c=Za (f,dvs)->∃(C fa:Zj)(fd:Zap)(k:Nat)(ps:List Str)(ds:List Ze),ce c=Za C/\Cls X.K C/\Meth X.K C m fa/\FnOk X.prog X.w X.K X.mg X.base (CXI X.prog X.w) k fa fd ps (spI ce X.K ps f)/\Room k X.A/\JI X.K fd ps ds/\(∃vs,Vals vs ds/\∀ι H,RVs X.K ι H dvs vs)/\n+ds.length+1=ps.length
theorem Jzm {n:Nat}{disp:Str->Option ((List IV->IH->Res IV)×List IV)}{pl:Sem Bool}(ho:PEi ce X o mo)(hd:Jn6 ce X m n disp)(ha:PAi ce X (e::es) ma)(hlen:∀σ h xs h',ma σ h=.ok xs h'->xs.length=n)
  (hst:Z9 (e::es) X.env=(Zh,ZaQ e X.env)::Z9 es X.env:=by rfl)(hpl:(ZaX pos (Z9 es X.env)).any (·.1)=Zh:=by rfl)
  (ht:ZaQ (.Call (.Attribute o m apos) (e::es) [] pos) X.env=(do
   let ov<-ZaQ o X.env
   ZeF apos.atName
   let (f,first)<-Zdb [ov] (ZdJ ov m pl)
   callWith pos f first (ZaX pos (Z9 (e::es) X.env)) (ZdR pos (ZcE [] X.env))):=by rfl) :
  PEi ce X (.Call (.Attribute o m apos) (e::es) [] pos) (Jr6 m disp mo ma):=by
 intro pj s σ H ι σi h Q E N K
 refine W.methodCall_KW (pl:=pl) (ho.run N K λ v h1 u s1 H1 ι1 N1 n1 r1 K1=>?_) ht
 cases v with
 | ref i =>
  obtain⟨w,rw',a,e1,hi⟩:=r1
  subst e1
  cases rw'
  dsimp only at K1
  cases hh:h1[i]? with
  | none=>rw[hh] at K1;exact Zf K1
  | some ob =>
   cases ob with
   | ins c fs =>
    rw[hh] at K1
    dsimp only at K1
    cases hd1:disp c with
    | none=>rw[hd1] at K1;exact Zf K1
    | some fd1 =>
     obtain⟨f,dvs⟩:=fd1
     cases hl:fs.lookup m with
     | some z=>rw[hd1,hl] at K1;exact Zf K1
     | none =>
      rw[hd1,hl] at K1
      dsimp only at K1
      obtain⟨C,fa,fd,k,ps,ds,hC,cl,hm,F,hr,hb,hdv,hn⟩:=hd c f dvs hd1
      obtain⟨C',dx,vs,hC',hH,rp⟩:=N1.at hh hi
      rw[hC] at hC'
      cases hC'
      refine Jhe N1.inv hH cl hm ((RPs.lookup rp).2 hl) ?_
      refine W.callWith_K (first:=[.ref a]) (h₀:=X.base) N1.inv.ok.mod.kin hm.kp ?_ hst hpl
      refine ha pos pj s1 σ H1 ι1 σi h1 _ E N1 ?_
      cases e0:ma σi h1 with
      | exc n h'=>rw[e0] at K1;exact K1
      | stuck=>rw[e0] at K1;exact K1
      | ok xs h' =>
       rw[e0] at K1
       intro us s2 H2 ι2 N2 n2 r2
       have hl:xs.length=us.length:=by
        obtain⟨vs,rv,q⟩:=r2
        rw[<- rv.length,q.length]
       have hl2:=hlen σi h1 xs h' e0
       refine⟨N2.inv.kIn,Jid (us:=.ref a::us) (xs:=.ref i::xs) F hr hb hdv (by rw[ZB];omega) N2 (.cons ⟨.ref a,rfl,a,rfl,n2.at hi⟩ r2) ?_⟩
       exact Kont.mono (r:=(f (.ref i::(xs++dvs)) h')) K1 n2
   | _=>rw[hh] at K1;exact Zf K1
 | _=>exact Zf K1
theorem Jwm {disp:Str->Option ((List IV->IH->Res IV)×List IV)}{pl:Sem Bool}(ho:PEi ce X o mo)(hd:Jn6 ce X m 0 disp)
  (ht:ZaQ (.Call (.Attribute o m apos) [] [] pos) X.env=(do
   let ov<-ZaQ o X.env
   ZeF apos.atName
   let (f,first)<-Zdb [ov] (ZdJ ov m pl)
   callWith pos f first (ZaX pos (Z9 [] X.env)) (ZdR pos (ZcE [] X.env))):=by rfl) :
  PEi ce X (.Call (.Attribute o m apos) [] [] pos) (Jr6 m disp mo Jd):=by
 intro pj s σ H ι σi h Q E N K
 refine W.methodCall_KW (pl:=pl) (ho.run N K λ v h1 u s1 H1 ι1 N1 n1 r1 K1=>?_) ht
 cases v with
 | ref i =>
  obtain⟨w,rw',a,e1,hi⟩:=r1
  subst e1
  cases rw'
  dsimp only at K1
  cases hh:h1[i]? with
  | none=>rw[hh] at K1;exact Zf K1
  | some ob =>
   cases ob with
   | ins c fs =>
    rw[hh] at K1
    dsimp only at K1
    cases hd1:disp c with
    | none=>rw[hd1] at K1;exact Zf K1
    | some fd1 =>
     obtain⟨f,dvs⟩:=fd1
     cases hl:fs.lookup m with
     | some z=>rw[hd1,hl] at K1;exact Zf K1
     | none =>
      rw[hd1,hl] at K1
      dsimp only at K1
      obtain⟨C,fa,fd,k,ps,ds,hC,cl,hm,F,hr,hb,hdv,hn⟩:=hd c f dvs hd1
      obtain⟨C',dx,vs,hC',hH,rp⟩:=N1.at hh hi
      rw[hC] at hC'
      cases hC'
      refine Jhe N1.inv hH cl hm ((RPs.lookup rp).2 hl) ?_
      exact W.callWith_K0 (first:=[.ref a]) N1.inv.kIn hm.kp (Jid (us:=[.ref a]) (xs:=[.ref i]) F hr hb hdv (by rw[ZB,Zau];omega) N1 (.cons ⟨.ref a,rfl,a,rfl,hi⟩ .nil) K1)
   | _=>rw[hh] at K1;exact Zf K1
 | _=>exact Zf K1
def eFld (f:Str)(o:E1):E1:=λ σ h=>(o σ h).bind λ v h1=>match v with
 | .ref i=>(match h1[i]? with
  | some (.ins _ fs)=>(match fs.lookup f with
   | some x=>.ok x h1
   | none=>.stuck)
  | _=>.stuck)
 | _=>.stuck
def Jrt (ce:CeT)(K:W.Frag)(f:Str):Prop:=∀c C,ce c=Za C->Cls K C/\Vc K C f
theorem J13 {fl:Str}(ho:PEi ce X o mo)(hf:Jrt ce X.K fl)(hb:Zda o fl X.env (ZaQ o X.env)=ZaQ o X.env:=by rfl):PEi ce X (.Attribute o fl pos) (eFld fl mo):=by
 intro pj s σ H ι σi h Q E N K
 refine Jvm hb (ho.run N K λ v h1 u s1 H1 ι1 N1 n1 r1 K1=>?_)
 cases v with
 | ref i =>
  obtain⟨w,rw',a,e1,hi⟩:=r1
  subst e1
  cases rw'
  dsimp only at K1
  cases hh:h1[i]? with
  | none=>rw[hh] at K1;exact Zf K1
  | some ob =>
   cases ob with
   | ins c fs =>
    rw[hh] at K1
    dsimp only at K1
    cases hl:fs.lookup fl with
    | none=>rw[hl] at K1;exact Zf K1
    | some z =>
     rw[hl] at K1
     obtain⟨C,dx,vs,hC,hH,rp⟩:=N1.at hh hi
     obtain⟨cl,na⟩:=hf c C hC
     obtain⟨y,hy,q⟩:=(RPs.lookup rp).1 z hl
     exact Jm7 N1.inv hH cl na hy λ u' s2 I2 ru=>K1 u' s2 H1 ι1 ⟨I2,N1.rel,N1.st⟩ .refl ⟨y,ru,q⟩
   | _=>rw[hh] at K1;exact Zf K1
 | _=>exact Zf K1
noncomputable def putI (f:Str)(v:IV):List (Str×IV)->List (Str×IV)
 | []=>[(f,v)]
 | (g,x)::r=>if g=f then(g,v)::r else(g,x)::putI f v r
theorem RPs.put {K:W.Frag}{ι:List Zj}{H:Hp}{fl:Str}{v:IV}{y:V}(q:RV K ι H v y):∀{fs:List (Str×IV)}{vs:List (Str×V)},RPs K ι H fs vs->RPs K ι H (putI fl v fs) (putF fl y vs)
 | [],_,h=>by
  have e:_=[]:=h
  subst e
  exact⟨y,[],rfl,q,rfl⟩
 | (g,x)::r,_,h=>by
  obtain⟨w,vr,e,qx,t⟩:=h
  subst e
  show RPs K ι H (if g=fl then(g,v)::r else(g,x)::putI fl v r) (if g=fl then(g,y)::vr else(g,w)::putF fl y vr)
  by_cases hg:g=fl
  ·rw[if_pos hg,if_pos hg]
   exact⟨y,vr,rfl,q,t⟩
  ·rw[if_neg hg,if_neg hg]
   exact⟨w,_,rfl,qx,RPs.put q t⟩
def Qz (f:Str)(o e:E1):S1:=λ σ h=>rS σ (e σ h) λ v h1=>rS σ (o σ h1) λ ov h2=>match ov with
 | .ref i=>(match h2[i]? with
  | some (.ins c fs)=>if fs.length<1000 then .next σ (h2.set i (.ins c (putI f v fs))) else .stuck
  | _=>.stuck)
 | _=>.stuck
theorem J2t {fl:Str}{value:Expr}{mv:E1}{pos':Pos}(ho:PEi ce X o mo)(hv:PEi ce X value mv)(hf:Jrt ce X.K fl)(hs:ZcD value (Za (.Attribute o fl pos')) pos.line X.env=pure Zh:=by rfl):PS1 ce X (.Assign [.Attribute o fl pos'] value pos) (Qz fl mo mv):=by
 intro pj s σ H ι σi h Q E N K
 refine ZcS (krun hv N K λ v h1 u s1 H1 ι1 N1 n1 r1 K1=>krun ho N1 K1 λ ov h2 w s2 H2 ι2 N2 n2 r2 K2=>?_) hs
 cases ov with
 | ref i =>
  obtain⟨w,rw',a,e1,hi⟩:=r2
  subst e1
  cases rw'
  dsimp only at K2
  cases hh:h2[i]? with
  | none=>rw[hh] at K2;exact Zf K2
  | some ob =>
   cases ob with
   | ins c fs =>
    rw[hh] at K2
    dsimp only at K2
    split at K2
    ·rename_i hz
     obtain⟨C,dx,vs,hC,hH,rp⟩:=N2.at hh hi
     obtain⟨cl,na⟩:=hf c C hC
     obtain⟨y,ry,q⟩:=r1
     refine Jn1 N2.inv hH cl na (by rw[rp.length];exact hz) ry λ s3 I3=>?_
     have n3:Nxt ι2 H2 ι2 (upd H2 a (.ins C dx (putF fl y vs))):=⟨⟨[],by simp⟩,Ext.upd_mut hH (by rw[hH];exact ZaK)⟩
     obtain⟨R3,_⟩:=N2.rel.write (o:=.ins C dx (putF fl y vs)) (io:=.ins c (putI fl v fs)) hi hH (by rw[hH];exact ZaK) ⟨C,dx,_,hC,Jw,RPs.put (RV.mono (n2.trans n3) _ _ q) (RPs.mono n3 _ _ rp)⟩
     exact K2 s3 σ _ ι2 ⟨I3,R3,N2.st.mono n3⟩ n3
    ·exact Zf K2
   | _=>rw[hh] at K2;exact Zf K2
 | _=>exact Zf K2
end
section
variable {ce:CeT}{X:Cx}{a b c:Expr}{ma mb mc:E1}{pos:Pos}
def Jh:IV->IV->IH->Res IV
 | .ref i,.int k,h=>match h[i]? with
  | some (.lst xs)=>(match atI xs k with
   | some v=>.ok v h
   | none=>.stuck)
  | _=>.stuck
 | .rol xs,.int k,h=>match atI xs k with
  | some v=>.ok v h
  | none=>.stuck
 | .tup xs,.int k,h=>match atI xs k with
  | some v=>.ok v h
  | none=>.stuck
 | .str x,.int k,h=>if x.length<=sizeLine then(match atI x.cps.toList k with
  | some c=>.ok (.str ⟨#[c]⟩) h
  | none=>.stuck) else .stuck
 | _,_,_=>.stuck
theorem Jkk {K:W.Frag}{ι:List Zj}{H:Hp}{xs:List IV}{vs:List V}{k:Int}{v:IV}(r:RVs K ι H xs vs)(e:atI xs k=Za v):∃u,atI vs k=Za u/\RV K ι H v u:=by
 unfold atI at e ⊢
 rw[r.length]
 cases q:ixN xs.length k with
 | none=>rw[q] at e;cases e
 | some j =>
  rw[q] at e
  exact r.get e
def IxI (ce:CeT)(X:Cx)(g:IV->IV->IH->Res IV):Prop :=
 ∀(value slice:Expr)(pj:PnT)(s:Zk)(σ:L2.St)(H:Hp)(ι:List Zj)(σi:ISt)(h:IH)(x y:IV)(v u:Ze)(Q:QvT)(E:QvT),Now ce X pj ι σi h σ H s->RU X.K ι H x v->RU X.K ι H y u ->
  Kont ce X RU pj ι σi σ H (g x y h) Q E->Zep slice Zh v u=operate [v,u] (Zew v u)->Zt (Z3 X.prog X.w) X.A (ZdC value slice v u) Q E s
theorem Jmj {pj:PnT}{s:Zk}{σ:L2.St}{H:Hp}{Q:QvT}{E:QvT}{r:R2}{value slice:Expr}{x y:V}{v u:Ze}(p:IxR (X.wish E) r)(I:Inv X pj σ H s)(rx:RelV x v)(ry:RelV y u)
  (k:r x y H λ z H'=>∀u s',Inv X pj σ H' s'->RelV z u->Q u s')(hs:Zep slice Zh v u=operate [v,u] (Zew v u)):Zt (Z3 X.prog X.w) X.A (ZdC value slice v u) Q E s :=
 ZP (p value slice pj s σ H x y v u _ (I.wish E) rx ry k hs) (λ u s' ⟨_,_,I',r,q⟩=>q u s' I'.unwish r) λ _ _ z=>z
theorem x_ix:IxI ce X Jh:=by
 intro value slice pj s σ H ι σi h x y v u Q E N rx ry K hs
 obtain⟨xv,rx,qx⟩:=rx
 obtain⟨yv,ry,qy⟩:=ry
 cases y with
 | int k =>
  have e2:yv=.int k:=qy
  subst e2
  cases x with
  | ref i =>
   obtain⟨a,e1,ha⟩:=qx
   subst e1
   dsimp only[Jh] at K
   cases hi:h[i]? with
   | none=>rw[hi] at K;exact Zf K
   | some ob =>
    rw[hi] at K
    cases ob with
    | lst xs =>
     dsimp only at K
     cases hk:atI xs k with
     | none=>rw[hk] at K;exact Zf K
     | some z =>
      rw[hk] at K
      obtain⟨vs,e1,r1⟩:=N.at hi ha
      obtain⟨w,hw,qw⟩:=Jkk r1 hk
      exact Jmj (Jpw (X:=X.wish E)) N.inv rx ry ⟨a,vs,k,w,rfl,rfl,SqL.of e1,hw,fin0 N K qw⟩ hs
    | _=>exact Zf K
  | rol xs =>
   obtain⟨a,vs,e1,sa,ra⟩:=qx
   subst e1
   dsimp only[Jh] at K
   cases hk:atI xs k with
   | none=>rw[hk] at K;exact Zf K
   | some z =>
    rw[hk] at K
    obtain⟨w,hw,qw⟩:=Jkk ra hk
    exact Jmj (Jpw (X:=X.wish E)) N.inv rx ry ⟨a,vs,k,w,rfl,rfl,sa.sq,hw,fin0 N K qw⟩ hs
  | tup xs =>
   obtain⟨a,vs,e1,sa,ra⟩:=qx
   subst e1
   dsimp only[Jh] at K
   cases hk:atI xs k with
   | none=>rw[hk] at K;exact Zf K
   | some z =>
    rw[hk] at K
    obtain⟨w,hw,qw⟩:=Jkk ra hk
    exact Jmj (Jzw (X:=X.wish E)) N.inv rx ry ⟨a,vs,k,w,rfl,rfl,sa,hw,fin0 N K qw⟩ hs
  | str x =>
   have e1:xv=.str x:=qx
   subst e1
   dsimp only[Jh] at K
   split at K
   ·rename_i hz
    cases hk:atI x.cps.toList k with
    | none=>rw[hk] at K;exact Zf K
    | some z =>
     rw[hk] at K
     exact Jmj (Jzv (X:=X.wish E)) N.inv rx ry ⟨x,k,z,rfl,rfl,hz,hk,fin0 N K rfl⟩ hs
   ·exact Zf K
  | _=>exact Zf K
 | _=>cases x<;>exact Zf K
theorem i_ix {g:IV->IV->IH->Res IV}(hg:IxI ce X g)(ha:PEi ce X a ma)(hb:PEi ce X b mb)(hs:Jn7 b:=by intro _ _;rfl):PEi ce X (.Subscript a b pos) (Jc g ma mb):=λ pj s σ H ι σi h Q E N K =>
 Subscript_ (ha.run N K λ x h1 u s1 H1 ι1 N1 n1 r1 K1=>hb.run N1 K1 λ y h2 w s2 H2 ι2 N2 n2 r2 K2=>hg a b pj s2 σ H2 ι2 σi h2 x y u w Q E N2 (r1.mono n2) r2 K2 (hs _ _))
abbrev O1:=ISt->IH->Res (Option Int)
def J1n:REL (Option Int) Ze:=λ _ _ _ o u=>ZeN u o
def PPi (ce:CeT)(X:Cx)(e:Option Expr)(m:O1):Prop:=PX ce X J1n (evalPart e X.env) m
noncomputable def QT:O1:=λ _ h=>.ok Zc h
def JK (e:E1):O1:=λ σ h=>(e σ h).bind λ v h1=>match v with
 | .int i=>.ok (Za i) h1
 | _=>.stuck
theorem J0h:PPi ce X Zc QT:=by
 intro pj s σ H ι σi h Q E N K
 rw[evalPart_none]
 exact Zv (K _ s H ι N .refl .none)
theorem J0i (ha:PEi ce X a ma):PPi ce X (Za a) (JK ma):=by
 intro pj s σ H ι σi h Q E N K
 rw[evalPart_some]
 refine ha.run N K λ x h1 u s1 H1 ι1 N1 n1 r1 K1=>?_
 cases x with
 | int i =>
  obtain⟨w,rw',q⟩:=r1
  have e:w=.int i:=q
  subst e
  obtain⟨t,rfl⟩:=rw'
  exact K1 _ s1 H1 ι1 N1 .refl (.int i t)
 | _=>exact Zf K1
def cutI {α:Type}(xs:List α)(lo hi:Option Int):List α:=(xs.drop (HT.sIx xs.length 0 lo)).take (HT.sIx xs.length xs.length hi-HT.sIx xs.length 0 lo)
def slI:IV->Option Int->Option Int->IH->Res IV
 | .ref i,lo,hi,h=>match h[i]? with
  | some (.lst xs)=>.ok (.ref h.length) (h++[.lst (cutI xs lo hi)])
  | _=>.stuck
 | .rol xs,lo,hi,h=>.ok (.ref h.length) (h++[.lst (cutI xs lo hi)])
 | _,_,_,_=>.stuck
theorem RVs.cut {K:W.Frag}{ι:List Zj}{H:Hp}{xs:List IV}{vs:List V}(r:RVs K ι H xs vs)(lo hi:Option Int):RVs K ι H (cutI xs lo hi) (cutV vs lo hi):=by
 unfold cutI cutV
 rw[r.length]
 exact(r.drop _).take _
def eSl (f:IV->Option Int->Option Int->IH->Res IV)(e:E1)(lo hi:O1):E1:=λ σ h=>(e σ h).bind λ x h1=>(lo σ h1).bind λ l h2=>(hi σ h2).bind λ u h3=>f x l u h3
def SlI (ce:CeT)(X:Cx)(g:IV->Option Int->Option Int->IH->Res IV):Prop :=
 ∀(pj:PnT)(s:Zk)(σ:L2.St)(H:Hp)(ι:List Zj)(σi:ISt)(h:IH)(x:IV)(v vl vu:Ze)(lo hi:Option Int)(sl:Zj)(Q:QvT)(E:QvT),Now ce X pj ι σi h σ H s->RU X.K ι H x v->s.heap.IsSliceOf sl vl vu .none->ZeN vl lo->ZeN vu hi ->
  Kont ce X RU pj ι σi σ H (g x lo hi h) Q E->∃T id,Ze5 (.type T) "__getitem__"=pure (Za (.builtin id))/\s.TypeIs v T/\Zt (Z3 X.prog X.w) X.A (Zew v (.ref sl)) Q E s
theorem Jvg {pj:PnT}{s:Zk}{σ:L2.St}{H:Hp}{Q:QvT}{E:QvT}{r:V->Option Int->Option Int->Hp->VK->Prop}{x:V}{v vl vu:Ze}{lo hi:Option Int}{sl:Zj}(p:SlR (X.wish E) r)(I:Inv X pj σ H s)(rx:RelV x v)
  (hs:s.heap.IsSliceOf sl vl vu .none)(pl:ZeN vl lo)(pu:ZeN vu hi)(k:r x lo hi H λ z H'=>∀u s',Inv X pj σ H' s'->RelV z u->Q u s') :
  ∃T id,Ze5 (.type T) "__getitem__"=pure (Za (.builtin id))/\s.TypeIs v T/\Zt (Z3 X.prog X.w) X.A (Zew v (.ref sl)) Q E s:=by
 obtain⟨T,id,h1,h2,h3⟩:=p pj s σ H x v vl vu lo hi sl _ (I.wish E) rx hs pl pu k
 exact⟨T,id,h1,h2,ZP h3 (λ u s' ⟨_,_,I',r,q⟩=>q u s' I'.unwish r) λ _ _ z=>z⟩
theorem Jwn {g:IV->Option Int->Option Int->IH->Res IV}{lo hi:Option Expr}{ml mh:O1}{p2:Pos}(hr:SlI ce X g)(he:PEi ce X a ma)(hl:PPi ce X lo ml)(hu:PPi ce X hi mh):PEi ce X (.Subscript a (.Slice lo hi Zc p2) pos) (eSl g ma ml mh):=by
 intro pj s σ H ι σi h Q E N K
 refine Subscript_ (he.run N K λ x h1 v s1 H1 ι1 N1 n1 r1 K1=>?_)
 refine wpAny_Slice (PX.run hl N1 K1 λ l h2 vl s2 H2 ι2 N2 n2 pl K2=>PX.run hu N2 K2 λ u h3 vu s3 H3 ι3 N3 n3 pu K3=>?_)
 rw[evalPart_none]
 refine Zv ?_
 have I4:Inv X pj σ H3 { s3 with heap:=s3.heap.push { cls:=.type "slice",data:=.fields #[vl,vu,.none] } }:=N3.inv.kept (t':=s3.toks) λ b ob q=>Zi _ q
 obtain⟨T,id,hT,ht,hg⟩:=hr pj { s3 with heap:=s3.heap.push { cls:=.type "slice",data:=.fields #[vl,vu,.none] } } σ H3 ι3 σi h3 x v vl vu l u s3.heap.objs.size Q E ⟨I4,N3.rel,N3.st⟩ ((r1.mono n2).mono n3) (Heap.IsSliceOf.new ..) pl pu K3
 show Zt (Z3 X.prog X.w) X.A (ZdC a (.Slice lo hi Zc p2) v (.ref s3.heap.objs.size)) Q E { s3 with heap:=s3.heap.push { cls:=.type "slice",data:=.fields #[vl,vu,.none] } }
 exact tail_any (ops:=[.ref s3.heap.objs.size,v]) ht hT hg (by with_unfolding_all rfl)
def eCB (f:List IV->IH->Res IV)(a:A1):E1:=λ σ h=>(a σ h).bind f
variable {es:List Expr}{mr:A1}{x:Str}{p:Pos}{id T:String}{g:List IV->IH->Res IV}
theorem VB (hc:Q6 ce X (.builtin id) g)(hg:Gl X x)(hm:X.mg x=Zc)(hv:Zbv x=Za (.builtin id))(ha:PAi ce X (a::es) mr)(hn:x≠"__name__":=by decide)(hdb:(x==("__debug__":Str))=Zh:=by decide)
  (he:Z9 (a::es) X.env=(Zh,ZaQ a X.env)::Z9 es X.env:=by rfl)(hpl:(ZaX pos (Z9 es X.env)).any (·.1)=Zh:=by rfl):PEi ce X (.Call (.Name x p) (a::es) [] pos) (eCB g mr):=λ pj s σ H ι σi h Q E N K =>
 ZQ (Qf N.inv hg hm hv (Zbg ((ha pos).run N K λ xs h1 us s1 H1 ι1 N1 n1 r1 K1=>hc pj s1 σ H1 ι1 σi h1 xs us Q E N1 r1 K1) he hpl) hn hdb)
theorem Jpn (hc:Q6 ce X (.type T) g)(hg:Gl X x)(hm:X.mg x=Zc)(hv:Zbv x=Za (.type T))(ha:PAi ce X (a::es) mr)(hn:x≠"__name__":=by decide)(hdb:(x==("__debug__":Str))=Zh:=by decide)
  (he:Z9 (a::es) X.env=(Zh,ZaQ a X.env)::Z9 es X.env:=by rfl)(hpl:(ZaX pos (Z9 es X.env)).any (·.1)=Zh:=by rfl):PEi ce X (.Call (.Name x p) (a::es) [] pos) (eCB g mr):=λ pj s σ H ι σi h Q E N K =>
 ZQ (Qf N.inv hg hm hv (Zah ((ha pos).run N K λ xs h1 us s1 H1 ι1 N1 n1 r1 K1=>hc pj s1 σ H1 ι1 σi h1 xs us Q E N1 r1 K1) he hpl) hn hdb)
def on1 (f:IV->IH->Res IV):List IV->IH->Res IV
 | [x],h=>f x h
 | _,_=>.stuck
def on2 (f:IV->IV->IH->Res IV):List IV->IH->Res IV
 | [x,y],h=>f x y h
 | _,_=>.stuck
theorem RVs.one_of {K:W.Frag}{ι:List Zj}{H:Hp}{x:IV}{vs:List V}(r:RVs K ι H [x] vs):∃v,vs=[v]/\RV K ι H x v:=by
 obtain⟨v,r',e,q,q2⟩:=r
 have e2:r'=[]:=q2
 subst e2
 exact⟨v,e,q⟩
theorem RVs.two_of {K:W.Frag}{ι:List Zj}{H:Hp}{x y:IV}{vs:List V}(r:RVs K ι H [x,y] vs):∃v w,vs=[v,w]/\RV K ι H x v/\RV K ι H y w:=by
 obtain⟨v,r',e,q,r2⟩:=r
 obtain⟨w,e2,q2⟩:=r2.one_of
 subst e2
 exact⟨v,w,e,q,q2⟩
theorem Xa {fv:Ze}{f:IV->IH->Res IV}(hh:∀(pj:PnT)(s:Zk)(σ:L2.St)(H:Hp)(ι:List Zj)(σi:ISt)(h:IH)(x:IV)(xv:V)(u:Ze)(Q:QvT)(E:QvT),Now ce X pj ι σi h σ H s->RelV xv u->RV X.K ι H x xv ->
  Kont ce X RU pj ι σi σ H (f x h) Q E->Zt (Z3 X.prog X.w) X.A (call fv [u]) Q E s):Q6 ce X fv (on1 f):=by
 intro pj s σ H ι σi h xs us Q E N r K
 obtain⟨vs,rv,q⟩:=r
 match xs,K with
 | [x],K =>
  obtain⟨v,e,qx⟩:=q.one_of
  subst e
  obtain⟨u,rfl,ru⟩:=Qk rv
  exact hh pj s σ H ι σi h x v u Q E N ru qx K
 | [],K=>exact Zf K
 | _::_::_,K=>exact Zf K
noncomputable def lenI:IV->IH->Res IV
 | .str x,h=>if x.length<=sizeLine then .ok (.int x.length) h else .stuck
 | .tup xs,h=>.ok (.int xs.length) h
 | .rol xs,h=>.ok (.int xs.length) h
 | .ref i,h=>match h[i]? with
  | some (.lst xs)=>.ok (.int xs.length) h
  | _=>.stuck
 | _,_=>.stuck
theorem Jyu:Q6 ce X (.builtin "len") (on1 lenI):=Xa λ pj s σ H ι σi h x xv u Q E N ru qx K=>by
 cases x with
 | str y =>
  have e:xv=.str y:=qx
  subst e
  dsimp only[lenI] at K
  split at K
  ·rename_i hz
   exact QG (Jff (X:=X.wish E)) N.inv (.cons ru .nil) ⟨_,_,rfl,⟨hz,rfl⟩,fin0 N K rfl⟩
  ·exact Zf K
 | tup xs =>
  obtain⟨a,vs,e1,sa,ra⟩:=qx
  subst e1
  exact QG (Jff (X:=X.wish E)) N.inv (.cons ru .nil) ⟨_,xs.length,rfl,.inr ⟨vs,sa,ra.length.symm⟩,fin0 N K rfl⟩
 | rol xs =>
  obtain⟨a,vs,e1,sa,ra⟩:=qx
  subst e1
  exact QG (Jff (X:=X.wish E)) N.inv (.cons ru .nil) ⟨_,xs.length,rfl,.inl ⟨vs,sa.sq,ra.length.symm⟩,fin0 N K rfl⟩
 | ref i =>
  obtain⟨a,e1,ha⟩:=qx
  subst e1
  dsimp only[lenI] at K
  cases hi:h[i]? with
  | none=>rw[hi] at K;exact Zf K
  | some ob =>
   rw[hi] at K
   cases ob with
   | lst xs =>
    obtain⟨vs,e1,r1⟩:=N.at hi ha
    exact QG (Jff (X:=X.wish E)) N.inv (.cons ru .nil) ⟨_,xs.length,rfl,.inl ⟨vs,SqL.of e1,r1.length.symm⟩,fin0 N K rfl⟩
   | _=>exact Zf K
 | _=>exact Zf K
end
def ALen (n:Nat)(m:A1):Prop:=∀σ h xs h',m σ h=.ok xs h'->xs.length=n
theorem Jru:ALen 0 Jd:=λ _ _ xs _ e=>by
 unfold Jd at e
 cases e
 rfl
theorem Jn9 {n:Nat}{e:E1}{r:A1}(hr:ALen n r):ALen (n+1) (Jb e r):=λ σ h xs h' q=>by
 unfold Jb at q
 cases e1:e σ h with
 | ok x h1 =>
  rw[e1] at q
  change (r σ h1).bind (λ xs h2=>.ok (x::xs) h2)=_ at q
  cases e2:r σ h1 with
  | ok ys h2 =>
   rw[e2] at q
   cases q
   rw[ZB,hr σ h1 ys _ e2]
  | exc n h2=>rw[e2] at q;cases q
  | stuck=>rw[e2] at q;cases q
 | exc n h1=>rw[e1] at q;cases q
 | stuck=>rw[e1] at q;cases q
def Xp (K:W.Frag)(x:Str)(f:List IV->IH->Res IV):Sp:=λ vs H Q E=>∀ce,spI ce K [x] f vs H Q E
theorem Jsc {P:ZA}{w:ZM}{K:W.Frag}{mg:Str->Option Ze}{base:ZZ}{k:Nat}{fa:Zj}{fd:Zap}{x:Str}{f:List IV->IH->Res IV}{ce:CeT}(F:FnOk P w K mg base (CXI P w) k fa fd [x] (spI ce K [x] f)) :
  FnOk P w K mg base (CXI P w) k fa fd [x] (Xp K x f):=F.imp λ _ _ _ _ h=>h ce
noncomputable def toD (h:IH):Nat->IV->Option ZcP
 | 0=>λ v=>match v with
  | .non=>Za .none
  | .bl b=>Za (.bool b)
  | .int i=>Za (.int i)
  | .str x=>Za (.str x)
  | _=>Zc
 | n+1=>λ v=>match v with
  | .non=>Za .none
  | .bl b=>Za (.bool b)
  | .int i=>Za (.int i)
  | .str x=>Za (.str x)
  | .tup xs=>(xs.mapM (toD h n)).map .tuple
  | .rol xs=>(xs.mapM (toD h n)).map .list
  | .ref i=>match h[i]? with
   | some (.lst xs)=>(xs.mapM (toD h n)).map .list
   | _=>Zc
section
variable {ce:CeT}{X:Cx}
theorem Jb1 {pj:PnT}{s:Zk}{σ:L2.St}{H:Hp}{ι:List Zj}{σi:ISt}{h:IH}{n:Nat}(N:Now ce X pj ι σi h σ H s)
  (ih:∀(v:IV)(d:ZcP)(x:V)(u:Ze),toD h n v=Za d->RV X.K ι H v x->RelV x u->∃as,Reads s.heap u d as) :
  ∀(xs:List IV)(ds:List ZcP)(vs:List V)(us:List Ze),xs.mapM (toD h n)=Za ds->RVs X.K ι H xs vs->Vals vs us->∃as,ReadsAll s.heap us ds as
 | [],ds,vs,us,e,q,r=>by
  have e1:vs=[]:=q
  subst e1
  cases r
  simp at e
  subst e
  exact⟨_,.nil⟩
 | x::xs,ds,vs,us,e,q,r=>by
  obtain⟨v,vr,e1,q1,q2⟩:=q
  subst e1
  cases r with
  | cons r1 r2 =>
   rw[ZcQ] at e
   cases e2:toD h n x with
   | none=>rw[e2] at e;cases e
   | some d =>
    rw[e2] at e
    cases e3:xs.mapM (toD h n) with
    | none=>rw[e3] at e;cases e
    | some dr =>
     rw[e3] at e
     cases e
     obtain⟨as,h1⟩:=ih x d v _ e2 q1 r1
     obtain⟨bs,h2⟩:=Jb1 N ih xs dr vr _ e3 q2 r2
     exact⟨_,.cons h1 h2⟩
theorem QU {pj:PnT}{s:Zk}{σ:L2.St}{H:Hp}{ι:List Zj}{σi:ISt}{h:IH}(N:Now ce X pj ι σi h σ H s):∀(n:Nat)(v:IV)(d:ZcP)(x:V)(u:Ze),toD h n v=Za d->RV X.K ι H v x->RelV x u->∃as,Reads s.heap u d as:=by
 have flat:∀(v:IV)(d:ZcP)(x:V)(u:Ze),toD h 0 v=Za d->RV X.K ι H v x->RelV x u->∃as,Reads s.heap u d as:=by
  intro v d x u e q r
  cases v with
  | non=>cases e;have e1:x=.non:=q;subst e1;cases r;exact⟨_,.none⟩
  | bl b=>cases e;have e1:x=.bl b:=q;subst e1;cases r;exact⟨_,.bool b⟩
  | int i=>cases e;have e1:x=.int i:=q;subst e1;obtain⟨t,rfl⟩:=r;exact⟨_,.int i t⟩
  | str z=>cases e;have e1:x=.str z:=q;subst e1;obtain⟨t,rfl⟩:=r;exact⟨_,.str z t⟩
  | _=>cases e
 intro n
 induction n with
 | zero=>exact flat
 | succ n ih =>
  intro v d x u e q r
  cases v with
  | non=>exact flat .non d x u e q r
  | bl b=>exact flat (.bl b) d x u e q r
  | int i=>exact flat (.int i) d x u e q r
  | str z=>exact flat (.str z) d x u e q r
  | tup xs =>
   obtain⟨a,vs,e1,sa,ra⟩:=q
   subst e1
   cases r
   obtain⟨ds,e2,rfl⟩:=Z5.mp (show(xs.mapM (toD h n)).map PyData.tuple=Za d from e)
   obtain⟨its,rv,⟨o,ho,hc,m,hd⟩,hz⟩:=N.inv.tuple sa
   obtain⟨as,h1⟩:=Jb1 N ih xs ds vs its e2 ra rv
   exact⟨_,.tuple ho hc hd h1⟩
  | rol xs =>
   obtain⟨a,vs,e1,sa,ra⟩:=q
   subst e1
   cases r
   obtain⟨ds,e2,rfl⟩:=Z5.mp (show(xs.mapM (toD h n)).map Zch=Za d from e)
   obtain⟨its,rv,⟨o,m,ho,hc,_,hd⟩,hz⟩:=N.inv.list sa.sq
   obtain⟨as,h1⟩:=Jb1 N ih xs ds vs its e2 ra rv
   exact⟨_,.list ho hc hd h1⟩
  | ref i =>
   obtain⟨a,e1,ha⟩:=q
   subst e1
   cases r
   have e':(match h[i]? with|some (.lst xs)=>(xs.mapM (toD h n)).map Zch|_=>Zc)=Za d:=e
   cases hi:h[i]? with
   | none=>rw[hi] at e';cases e'
   | some ob =>
    rw[hi] at e'
    cases ob with
    | lst xs =>
     obtain⟨ds,e2,rfl⟩:=Z5.mp e'
     obtain⟨vs,e1,r1⟩:=N.at hi ha
     obtain⟨its,rv,⟨o,m,ho,hc,_,hd⟩,hz⟩:=N.inv.list (SqL.of e1)
     obtain⟨as,h1⟩:=Jb1 N ih xs ds vs its e2 r1 rv
     exact⟨_,.list ho hc hd h1⟩
    | _=>cases e'
theorem Jbz {n:Nat}{f:IV->Option ZcP}(hf:∀v d,f v=Za d->d.depth<=n):∀(xs:List IV)(ds:List ZcP),xs.mapM f=Za ds->PyData.depthAll ds<=n
 | [],ds,e=>by simp at e;subst e;exact Zaa _
 | x::xs,ds,e=>by
  rw[ZcQ] at e
  cases e2:f x with
  | none=>rw[e2] at e;cases e
  | some d =>
   rw[e2] at e
   cases e3:xs.mapM f with
   | none=>rw[e3] at e;cases e
   | some dr =>
    rw[e3] at e
    cases e
    have h1:=hf x d e2
    have h2:=Jbz hf xs dr e3
    show max d.depth (PyData.depthAll dr)<=n
    omega
theorem Jeo {h:IH}:∀(n:Nat)(v:IV)(d:ZcP),toD h n v=Za d->d.depth<=n:=by
 intro n
 induction n with
 | zero =>
  intro v d e
  cases v<;>cases e<;>exact Zr _
 | succ n ih =>
  intro v d e
  cases v with
  | non=>cases e;exact Zaa _
  | bl b=>cases e;exact Zaa _
  | int i=>cases e;exact Zaa _
  | str z=>cases e;exact Zaa _
  | tup xs =>
   obtain⟨ds,e2,rfl⟩:=Z5.mp (show(xs.mapM (toD h n)).map PyData.tuple=Za d from e)
   exact ZcX (Jbz ih xs ds e2)
  | rol xs =>
   obtain⟨ds,e2,rfl⟩:=Z5.mp (show(xs.mapM (toD h n)).map Zch=Za d from e)
   exact ZcX (Jbz ih xs ds e2)
  | ref i =>
   have e':(match h[i]? with|some (.lst xs)=>(xs.mapM (toD h n)).map Zch|_=>Zc)=Za d:=e
   cases hi:h[i]? with
   | none=>rw[hi] at e';cases e'
   | some ob =>
    rw[hi] at e'
    cases ob with
    | lst xs =>
     obtain⟨ds,e2,rfl⟩:=Z5.mp e'
     exact ZcX (Jbz ih xs ds e2)
    | _=>cases e'
noncomputable def QV:IV->IV->Option Bool
 | .non,.non=>Za Zd
 | .int i,.int j=>Za (decide (i=j))
 | .str i,.str j=>Za (decide (i=j))
 | .bl i,.bl j=>Za (decide (i=j))
 | _,_=>Zc
noncomputable def Qo (x y:IV)(h:IH):Option Bool:=match toD h 6 x,toD h 6 y with
 | some a,Za b=>if a.canLay0=Zd/\b.canLay0=Zd then Za (ZaM a b) else Zc
 | _,_=>Zc
noncomputable def cEq (x y:IV)(h:IH):Res IV:=match QV x y with
 | some b=>.ok (.bl b) h
 | none=>match Qo x y h with
  | some b=>.ok (.bl b) h
  | none=>.stuck
noncomputable def cNe (x y:IV)(h:IH):Res IV:=match QV x y with
 | some b=>.ok (.bl (!b)) h
 | none=>match Qo x y h with
  | some b=>.ok (.bl (!b)) h
  | none=>.stuck
theorem Jlt {x y:IV}{h:IH}{b:Bool}(e:Qo x y h=Za b):∃da db,toD h 6 x=Za da/\toD h 6 y=Za db/\da.canLay0=Zd/\db.canLay0=Zd/\b=ZaM da db:=by
 unfold Qo at e
 cases e1:toD h 6 x with
 | none=>rw[e1] at e;cases e
 | some da =>
  cases e2:toD h 6 y with
  | none=>rw[e1,e2] at e;cases e
  | some db =>
   rw[e1,e2] at e
   dsimp only at e
   split at e
   ·rename_i hz
    cases e
    exact⟨da,db,rfl,rfl,hz.1,hz.2,rfl⟩
   ·cases e
theorem Jke {K:W.Frag}{ι:List Zj}{H:Hp}{x y:IV}{b:Bool}{xv yv:V}(e:QV x y=Za b)(qx:RV K ι H x xv)(qy:RV K ι H y yv):scal xv yv=Zd/\decide (xv=yv)=b:=by
 cases x with
 | non =>
  cases y with
  | non=>cases e;cases (show xv=.non from qx);cases (show yv=.non from qy);exact⟨rfl,rfl⟩
  | _=>cases e
 | int i =>
  cases y with
  | int j=>cases e;cases (show xv=.int i from qx);cases (show yv=.int j from qy);exact⟨rfl,by simp⟩
  | _=>cases e
 | str i =>
  cases y with
  | str j=>cases e;cases (show xv=.str i from qx);cases (show yv=.str j from qy);exact⟨rfl,by simp⟩
  | _=>cases e
 | bl i =>
  cases y with
  | bl j=>cases e;cases (show xv=.bl i from qx);cases (show yv=.bl j from qy);exact⟨rfl,by simp⟩
  | _=>cases e
 | _=>cases y<;>cases e
theorem o_eq (hu:X.A.units+64<Zez):OpI ce X (Zan .Eq) cEq:=by
 intro pj s σ H ι σi h x y v u Q E N rx ry K
 obtain⟨xv,rx,qx⟩:=rx
 obtain⟨yv,ry,qy⟩:=ry
 unfold cEq at K
 cases es:QV x y with
 | some b =>
  rw[es] at K
  obtain⟨h1,h2⟩:=Jke es qx qy
  exact JU (J2h (X:=X.wish E)) N.inv rx ry ⟨h1,by rw[h2];exact fin0 N K rfl⟩
 | none =>
  rw[es] at K
  dsimp only at K
  cases ed:Qo x y h with
  | none=>rw[ed] at K;exact Zf K
  | some b =>
   rw[ed] at K
   obtain⟨da,db,e1,e2,c1,c2,rfl⟩:=Jlt ed
   obtain⟨as,r1⟩:=QU N 6 x da xv v e1 qx rx
   obtain⟨bs,r2⟩:=QU N 6 y db yv u e2 qy ry
   have d1:=Jeo 6 x da e1
   exact PySem.SeqAt.compareEq_reads r1 r2 c1 c2 (by omega) (fin0 N K rfl _ s N.inv rfl)
theorem o_ne (hu:X.A.units+64<Zez):OpI ce X (Zan .NotEq) cNe:=by
 intro pj s σ H ι σi h x y v u Q E N rx ry K
 obtain⟨xv,rx,qx⟩:=rx
 obtain⟨yv,ry,qy⟩:=ry
 unfold cNe at K
 cases es:QV x y with
 | some b =>
  rw[es] at K
  obtain⟨h1,h2⟩:=Jke es qx qy
  exact JU (J2m (X:=X.wish E)) N.inv rx ry ⟨h1,by rw[h2];exact fin0 N K rfl⟩
 | none =>
  rw[es] at K
  dsimp only at K
  cases ed:Qo x y h with
  | none=>rw[ed] at K;exact Zf K
  | some b =>
   rw[ed] at K
   obtain⟨da,db,e1,e2,c1,c2,rfl⟩:=Jlt ed
   obtain⟨as,r1⟩:=QU N 6 x da xv v e1 qx rx
   obtain⟨bs,r2⟩:=QU N 6 y db yv u e2 qy ry
   have d1:=Jeo 6 x da e1
   exact PySem.SeqAt.compareNe_reads r1 r2 c1 c2 (by omega) (fin0 N K rfl _ s N.inv rfl)
def inI (x c:IV)(h:IH):Option Bool:=match toD h 6 c,toD h 6 x with
 | some (.list ds),Za d=>if ZR ds=Zd/\d.canLay0=Zd then Za (ds.any λ y=>ZaM y d) else Zc
 | some (.tuple ds),Za d=>if ZR ds=Zd/\d.canLay0=Zd then Za (ds.any λ y=>ZaM y d) else Zc
 | _,_=>Zc
noncomputable def cIn (x c:IV)(h:IH):Res IV:=match inI x c h with
 | some b=>.ok (.bl b) h
 | none=>.stuck
def Joq (x c:IV)(h:IH):Res IV:=match inI x c h with
 | some b=>.ok (.bl (!b)) h
 | none=>.stuck
theorem Jut {x c:IV}{h:IH}{b:Bool}(e:inI x c h=Za b):∃ds d,(toD h 6 c=Za (.list ds)∨toD h 6 c=Za (.tuple ds))/\toD h 6 x=Za d/\ZR ds=Zd/\d.canLay0=Zd/\b=ds.any λ y=>ZaM y d:=by
 unfold inI at e
 cases e1:toD h 6 c with
 | none=>rw[e1] at e;cases e
 | some dc =>
  cases e2:toD h 6 x with
  | none=>rw[e1,e2] at e;cases dc<;>cases e
  | some d =>
   rw[e1,e2] at e
   cases dc with
   | list ds =>
    dsimp only at e
    split at e
    ·rename_i hz;cases e;exact⟨ds,d,.inl rfl,rfl,hz.1,hz.2,rfl⟩
    ·cases e
   | tuple ds =>
    dsimp only at e
    split at e
    ·rename_i hz;cases e;exact⟨ds,d,.inr rfl,rfl,hz.1,hz.2,rfl⟩
    ·cases e
   | _=>cases e
theorem o_in (hu:X.A.units+64<Zez):OpI ce X (Zan .In) cIn:=by
 intro pj s σ H ι σi h x y v u Q E N rx ry K
 obtain⟨xv,rx,qx⟩:=rx
 obtain⟨yv,ry,qy⟩:=ry
 unfold cIn at K
 cases ei:inI x y h with
 | none=>rw[ei] at K;exact Zf K
 | some b =>
  rw[ei] at K
  obtain⟨ds,d,hc,e2,c1,c2,rfl⟩:=Jut ei
  obtain⟨bs,r2⟩:=QU N 6 x d xv v e2 qx rx
  have d2:=Jeo 6 x d e2
  rcases hc with e1|e1
  ·obtain⟨as,r1⟩:=QU N 6 y _ yv u e1 qy ry
   exact PySem.SeqAt.in_list_reads r1 r2 c1 c2 (by omega) (fin0 N K rfl _ s N.inv rfl)
  ·obtain⟨as,r1⟩:=QU N 6 y _ yv u e1 qy ry
   exact PySem.SeqAt.in_tuple_reads r1 r2 c1 c2 (by omega) (fin0 N K rfl _ s N.inv rfl)
theorem Jw4 (hu:X.A.units+64<Zez):OpI ce X (Zan .NotIn) Joq:=by
 intro pj s σ H ι σi h x y v u Q E N rx ry K
 obtain⟨xv,rx,qx⟩:=rx
 obtain⟨yv,ry,qy⟩:=ry
 unfold Joq at K
 cases ei:inI x y h with
 | none=>rw[ei] at K;exact Zf K
 | some b =>
  rw[ei] at K
  obtain⟨ds,d,hc,e2,c1,c2,rfl⟩:=Jut ei
  obtain⟨bs,r2⟩:=QU N 6 x d xv v e2 qx rx
  have d2:=Jeo 6 x d e2
  rcases hc with e1|e1
  ·obtain⟨as,r1⟩:=QU N 6 y _ yv u e1 qy ry
   exact PySem.SeqAt.notIn_list_reads r1 r2 c1 c2 (by omega) (fin0 N K rfl _ s N.inv rfl)
  ·obtain⟨as,r1⟩:=QU N 6 y _ yv u e1 qy ry
   exact PySem.SeqAt.notIn_tuple_reads r1 r2 c1 c2 (by omega) (fin0 N K rfl _ s N.inv rfl)
noncomputable def isI:IV->IV->Option Bool
 | .non,.non=>Za Zd
 | .bl a,.bl b=>Za (a==b)
 | .bl _,.non=>Za Zh
 | .int _,.non=>Za Zh
 | .str _,.non=>Za Zh
 | .tup _,.non=>Za Zh
 | .rol _,.non=>Za Zh
 | .ref _,.non=>Za Zh
 | .non,.bl _=>Za Zh
 | .int _,.bl _=>Za Zh
 | .str _,.bl _=>Za Zh
 | .tup _,.bl _=>Za Zh
 | .rol _,.bl _=>Za Zh
 | .ref _,.bl _=>Za Zh
 | _,_=>Zc
noncomputable def cIs (x y:IV)(h:IH):Res IV:=match isI x y with
 | some b=>.ok (.bl b) h
 | none=>.stuck
noncomputable def VZ (x y:IV)(h:IH):Res IV:=match isI x y with
 | some b=>.ok (.bl (!b)) h
 | none=>.stuck
theorem Juu {K:W.Frag}{ι:List Zj}{H:Hp}{x y:IV}{b:Bool}{v u:Ze}(e:isI x y=Za b)(rx:RU K ι H x v)(ry:RU K ι H y u):plainIs v u=Zd/\(v==u)=b:=by
 obtain⟨xv,rx,qx⟩:=rx
 obtain⟨yv,ry,qy⟩:=ry
 cases y with
 | non =>
  cases (show yv=.non from qy)
  cases ry
  cases x with
  | non=>cases e;cases (show xv=.non from qx);cases rx;exact⟨rfl,rfl⟩
  | bl c=>cases e;cases (show xv=.bl c from qx);cases rx;exact⟨rfl,rfl⟩
  | int c=>cases e;cases (show xv=.int c from qx);obtain⟨t,rfl⟩:=rx;exact⟨rfl,rfl⟩
  | str c=>cases e;cases (show xv=.str c from qx);obtain⟨t,rfl⟩:=rx;exact⟨rfl,rfl⟩
  | tup c=>cases e;obtain⟨a,vs,rfl,_⟩:=qx;cases rx;exact⟨rfl,rfl⟩
  | rol c=>cases e;obtain⟨a,vs,rfl,_⟩:=qx;cases rx;exact⟨rfl,rfl⟩
  | ref c=>cases e;obtain⟨a,rfl,_⟩:=qx;cases rx;exact⟨rfl,rfl⟩
 | bl d =>
  cases (show yv=.bl d from qy)
  cases ry
  cases x with
  | non=>cases e;cases (show xv=.non from qx);cases rx;exact⟨rfl,rfl⟩
  | bl c=>cases e;cases (show xv=.bl c from qx);cases rx;cases c<;>cases d<;>exact⟨rfl,rfl⟩
  | int c=>cases e;cases (show xv=.int c from qx);obtain⟨t,rfl⟩:=rx;exact⟨rfl,rfl⟩
  | str c=>cases e;cases (show xv=.str c from qx);obtain⟨t,rfl⟩:=rx;exact⟨rfl,rfl⟩
  | tup c=>cases e;obtain⟨a,vs,rfl,_⟩:=qx;cases rx;exact⟨rfl,rfl⟩
  | rol c=>cases e;obtain⟨a,vs,rfl,_⟩:=qx;cases rx;exact⟨rfl,rfl⟩
  | ref c=>cases e;obtain⟨a,rfl,_⟩:=qx;cases rx;exact⟨rfl,rfl⟩
 | _=>cases x<;>cases e
theorem o_is:OpI ce X (Zan .Is) cIs:=by
 intro pj s σ H ι σi h x y v u Q E N rx ry K
 unfold cIs at K
 cases ei:isI x y with
 | none=>rw[ei] at K;exact Zf K
 | some b =>
  rw[ei] at K
  obtain⟨h1,h2⟩:=Juu ei rx ry
  exact wpAny_is_plain h1 (by rw[h2];exact fin0 N K rfl _ s N.inv rfl)
theorem Jw3:OpI ce X (Zan .IsNot) VZ:=by
 intro pj s σ H ι σi h x y v u Q E N rx ry K
 unfold VZ at K
 cases ei:isI x y with
 | none=>rw[ei] at K;exact Zf K
 | some b =>
  rw[ei] at K
  obtain⟨h1,h2⟩:=Juu ei rx ry
  exact wpAny_isNot_plain h1 (by rw[h2];exact fin0 N K rfl _ s N.inv rfl)
inductive Ty where
 | non|bl|int|str|lst|tup|dct|ins (c:Str)|exc (c:Str)
noncomputable def tyI:IV->IH->Option Ty
 | .non,_=>Za .non
 | .bl _,_=>Za .bl
 | .int _,_=>Za .int
 | .str _,_=>Za .str
 | .tup _,_=>Za .tup
 | .rol _,_=>Za .lst
 | .ref i,h=>match h[i]? with
  | some (.lst _)=>Za .lst
  | some (.dct _)=>Za .dct
  | some (.ins c _)=>Za (.ins c)
  | some (.exc c _)=>Za (.exc c)
  | some (.hld c _)=>Za (.exc c)
  | _=>Zc
structure ClsI (K:W.Frag)(C:Zj):Prop where
 cl:Cls K C
 ha:W.findIn K (.ref C) "__class__"=Za (Za (.builtin "object.__class__"))
 hn:W.specialIn K (.builtin "object.__class__") "__get__"=Za (Za (.builtin "getset_descriptor.__get__"))
 htk:W.takesIn K (.builtin "object.__class__")=Za Zd
 hm:W.mroIn K C (.type "object")=Za Zd
structure IsOk (ce:CeT)(K:W.Frag)(c:Ze)(ans:Ty->Option Bool):Prop where
 non:∀b,ans .non=Za b->W.kitOne K (.type "NoneType") c=Za b
 bl:∀b,ans .bl=Za b->W.kitOne K (.type "bool") c=Za b
 int:∀b,ans .int=Za b->W.kitOne K (.type "int") c=Za b
 str:∀b,ans .str=Za b->W.kitOne K (.type "str") c=Za b
 lst:∀b,ans .lst=Za b->W.kitOne K (.type "list") c=Za b
 tup:∀b,ans .tup=Za b->W.kitOne K (.type "tuple") c=Za b
 dct:∀b,ans .dct=Za b->W.kitOne K (.type "dict") c=Za b
 ins:∀k C b,ans (.ins k)=Za b->ce k=Za C->ClsI K C/\W.kitOne K (.ref C) c=Za b
 exc:∀k C b,ans (.exc k)=Za b->W.nsIn K Zm k=Za (Za (.ref C))->ExI K C/\W.kitOne K (.ref C) c=Za b
def eIsi (ans:Ty->Option Bool)(e:E1):E1:=λ σ h=>(e σ h).bind λ v h1=>match (tyI v h1).bind ans with
 | some b=>.ok (.bl b) h1
 | none=>.stuck
theorem Jwr {pj:PnT}{s:Zk}{σ:L2.St}{H:Hp}{ι:List Zj}{σi:ISt}{h:IH}{x:IV}{u c:Ze}{ans:Ty->Option Bool}{b:Bool}{Q:QvT}{E:QvT}{A:ZG}(N:Now ce X pj ι σi h σ H s)(rx:RU X.K ι H x u)(O:IsOk ce X.K c ans)
  (e:(tyI x h).bind ans=Za b)(hq:∀tk,Q (.bool b) { s with toks:=tk }):Zt (Z3 X.prog X.w) A (call (.builtin "isinstance") [u,c]) Q E s:=by
 obtain⟨xv,rx,qx⟩:=rx
 cases x with
 | non=>cases (show xv=.non from qx);cases rx;exact W.kia_one W.kitx_none N.inv.kIn ZaK (O.non b e) (λ z=>nomatch z) hq
 | bl i=>cases (show xv=.bl i from qx);cases rx;exact W.kia_one W.kitx_bool N.inv.kIn ZaK (O.bl b e) (λ z=>nomatch z) hq
 | int i=>cases (show xv=.int i from qx);obtain⟨t,rfl⟩:=rx;exact W.kia_one W.kitx_int N.inv.kIn ZaK (O.int b e) (λ z=>nomatch z) hq
 | str i=>cases (show xv=.str i from qx);obtain⟨t,rfl⟩:=rx;exact W.kia_one W.kitx_str N.inv.kIn ZaK (O.str b e) (λ z=>nomatch z) hq
 | tup xs =>
  obtain⟨a,vs,rfl,sa,_⟩:=qx
  cases rx
  obtain⟨its,rv,⟨o,ho,hc,m,hd⟩,hz⟩:=N.inv.tuple sa
  exact W.kia_one W.kitx_tuple N.inv.kIn ⟨o,ho,hc⟩ (O.tup b e) (λ z=>nomatch z) hq
 | rol xs =>
  obtain⟨a,vs,rfl,sa,_⟩:=qx
  cases rx
  obtain⟨its,rv,⟨o,m,ho,hc,_,hd⟩,hz⟩:=N.inv.list sa.sq
  exact W.kia_one W.kitx_list N.inv.kIn ⟨o,ho,hc⟩ (O.lst b e) (λ z=>nomatch z) hq
 | ref i =>
  obtain⟨a,rfl,ha⟩:=qx
  cases rx
  cases hi:h[i]? with
  | none=>simp[tyI,hi] at e
  | some ob =>
   cases ob with
   | lst xs =>
    simp only[tyI,hi] at e
    obtain⟨vs,e1,r1⟩:=N.at hi ha
    obtain⟨its,rv,⟨o,m,ho,hc,_,hd⟩,hz⟩:=N.inv.list (SqL.of e1)
    exact W.kia_one W.kitx_list N.inv.kIn ⟨o,ho,hc⟩ (O.lst b e) (λ z=>nomatch z) hq
   | dct kvs =>
    simp only[tyI,hi] at e
    obtain⟨vs,e1,r1⟩:=N.at hi ha
    obtain⟨_,_,ws,_,p⟩:=(show JF X.prog X.w H s.heap a (.dK vs) from N.inv.hok a _ e1)
    obtain⟨o,es,ep,h1,h2,_⟩:=p
    exact W.kia_one W.kitx_dict N.inv.kIn ⟨o,h1,h2.1⟩ (O.dct b e) (λ z=>nomatch z) hq
   | ins c fs =>
    simp only[tyI,hi] at e
    obtain⟨C,dx,vs,hC,hH,rp⟩:=N.at hi ha
    obtain⟨I,hk⟩:=O.ins c C b e hC
    obtain⟨mA,Ob,_⟩:=Jh6 N.inv.hok hH
    obtain⟨od,J,_⟩:=Ob.look
    exact W.kia_one (W.kitx_own (I.cl.get _) I.cl.hd I.ha I.hn I.htk I.hm) N.inv.kIn J hk (λ z=>nomatch z) hq
   | exc c fs =>
    simp only[tyI,hi] at e
    obtain⟨C,tv,d,_,hC,hH,_⟩:=N.at hi ha
    obtain⟨I,hk⟩:=O.exc c C b e hC
    obtain⟨oe,vs,e1,e2,_⟩:=ExF.get N.inv.hok hH
    exact W.kia_one (Jl1 I) N.inv.kIn ⟨oe,e1,e2⟩ hk (λ z=>nomatch z) hq
   | hld c fs =>
    simp only[tyI,hi] at e
    obtain⟨C,oe,u,vs,_,hC,hH,e2,_⟩:=N.at hi ha
    obtain⟨I,hk⟩:=O.exc c C b e hC
    exact W.kia_one (Jl1 I) N.inv.kIn ⟨oe,(N.inv.hok a _ hH).1,e2⟩ hk (λ z=>nomatch z) hq
   | tab q=>simp[tyI,hi] at e
variable {a cx:Expr}{ma:E1}{pos p:Pos}
def ClsE (X:Cx)(cx:Expr)(c:Ze):Prop:=∀(pj:PnT)(σ:L2.St)(H:Hp)(s:Zk)(Q:QvT)(E:QvT),Inv X pj σ H s->Q c s->Zt (Z3 X.prog X.w) X.A (ZaQ cx X.env) Q E s
theorem VA {x:Str}{c:Ze}(hg:Gl X x)(hm:X.mg x=Zc)(hv:Zbv x=Za c)(hn:x≠"__name__":=by decide)(hdb:(x==("__debug__":Str))=Zh:=by decide):ClsE X (.Name x p) c:=λ _ _ _ _ _ _ I q=>Qf I hg hm hv q hn hdb
theorem Jkm {x:Str}{c:Ze}(hg:Gl X x)(hm:X.mg x=Za c)(hdb:(x==("__debug__":Str))=Zh:=by decide):ClsE X (.Name x p) c:=λ _ _ _ _ _ _ I q=>QP I hg hm q hdb
theorem Jzh {ans:Ty->Option Bool}{c:Ze}(hc:ClsE X cx c)(O:IsOk ce X.K c ans)(ha:PEi ce X a ma)(hg:Gl X "isinstance")(hm:X.mg "isinstance"=Zc)(hv:Zbv "isinstance"=Za (.builtin "isinstance"):=by rfl)
  (he:Z9 [a,cx] X.env=(Zh,ZaQ a X.env)::Z9 [cx] X.env:=by rfl)(he2:Z9 [cx] X.env=(Zh,ZaQ cx X.env)::Z9 [] X.env:=by rfl)(hpl:(ZaX pos (Z9 [cx] X.env)).any (·.1)=Zh:=by rfl):PEi ce X (.Call (.Name "isinstance" p) [a,cx] [] pos) (eIsi ans ma):=by
 intro pj s σ H ι σi h Q E N K
 refine ZQ (Qf N.inv hg hm hv ?_ (by decide) (by decide))
 refine Zbg ?_ he hpl
 rw[he]
 show Zt _ _ (spliced ((Zh,ZaQ a X.env)::ZaX pos (Z9 [cx] X.env))) _ _ s
 refine Zdw (ha.run N K λ x h1 u s1 H1 ι1 N1 n1 r1 K1=>?_)
 rw[he2]
 show Zt _ _ (spliced ((Zh,ZaQ cx X.env)::ZaX pos (Z9 [] X.env))) _ _ s1
 refine Zdw (hc pj σ H1 s1 _ E N1.inv ?_)
 refine Calls.spliced_nil ?_
 cases e:(tyI x h1).bind ans with
 | none=>rw[e] at K1;exact Zf K1
 | some b =>
  rw[e] at K1
  exact Jwr N1 r1 O e λ tk=>K1 _ _ H1 ι1 ⟨N1.inv.tok tk,N1.rel,N1.st⟩ .refl ⟨.bl b,rfl,rfl⟩
def Vf:Ty->Option Bool
 | .int=>Za Zd|.bl=>Za Zd|.ins _=>Zc|.exc _=>Zc|_=>Za Zh
def Ve:Ty->Option Bool
 | .bl=>Za Zd|.ins _=>Zc|.exc _=>Zc|_=>Za Zh
def Vr:Ty->Option Bool
 | .str=>Za Zd|.ins _=>Zc|.exc _=>Zc|_=>Za Zh
def Qg:Ty->Option Bool
 | .lst=>Za Zd|.ins _=>Zc|.exc _=>Zc|_=>Za Zh
def Vg:Ty->Option Bool
 | .tup=>Za Zd|.ins _=>Zc|.exc _=>Zc|_=>Za Zh
theorem Jpv {K:W.Frag}:IsOk ce K (.type "bool") Ve:=by
 refine⟨?_,?_,?_,?_,?_,?_,?_,(λ k C b e=>by cases e),(λ k C b e=>by cases e)⟩<;>(intro b e;cases e;first|rfl|with_unfolding_all rfl|kernel_rfl)
theorem Jsp {K:W.Frag}:IsOk ce K (.type "str") Vr:=by
 refine⟨?_,?_,?_,?_,?_,?_,?_,(λ k C b e=>by cases e),(λ k C b e=>by cases e)⟩<;>(intro b e;cases e;first|rfl|with_unfolding_all rfl|kernel_rfl)
theorem Jjo {K:W.Frag}:IsOk ce K (.type "list") Qg:=by
 refine⟨?_,?_,?_,?_,?_,?_,?_,(λ k C b e=>by cases e),(λ k C b e=>by cases e)⟩<;>(intro b e;cases e;first|rfl|with_unfolding_all rfl|kernel_rfl)
theorem Jsq {K:W.Frag}:IsOk ce K (.type "tuple") Vg:=by
 refine⟨?_,?_,?_,?_,?_,?_,?_,(λ k C b e=>by cases e),(λ k C b e=>by cases e)⟩<;>(intro b e;cases e;first|rfl|with_unfolding_all rfl|kernel_rfl)
theorem Jso {K:W.Frag}:IsOk ce K (.type "int") Vf:=by
 refine⟨?_,?_,?_,?_,?_,?_,?_,(λ k C b e=>by cases e),(λ k C b e=>by cases e)⟩<;>(intro b e;cases e;first|rfl|with_unfolding_all rfl|kernel_rfl)
end
def clOf (cells:List (Str×Zj)):List (Str×Zbe)->List (Str×Zj)->List (Str×Zj)
 | [],acc=>acc
 | (n,k)::r,acc=>clOf cells r (if (k==Za7)=Zd then(match cells.lookup n with|some c=>(n,c)::acc|none=>acc) else acc)
theorem Jgu {env:Env}(names:List (Str×Zbe))(acc:List (Str×Zj))(h:∀x∈names,x.2=.free->∃c,env.cells.lookup x.1=Za c) :
  (forIn names acc (λ (x:Str×Zbe)(r:List (Str×Zj))=>if (x.2==Za7)=Zd then(do let c<-cellOf env x.1;pure (ZaR ((x.1,c)::r))) else pure (ZaR r)):Sem (List (Str×Zj)))=pure (clOf env.cells names acc):=by
 induction names generalizing acc with
 | nil=>rfl
 | cons x r ih =>
  obtain⟨n,k⟩:=x
  have ih':=λ a=>ih a λ y hy=>h y (Zn _ hy)
  rw[List.forIn_cons]
  by_cases hk:(k==Za7)=Zd
  ·have hk':k=.free:=by
    cases k<;>first|rfl|exact absurd hk (by decide)
   obtain⟨c,hc⟩:=h (n,k) Zs hk'
   have e1:cellOf env n=pure c:=by unfold cellOf;rw[hc]
   simp only[hk,if_true,e1,pure_bind]
   rw[ih']
   simp only[clOf,hk,if_true,hc]
  ·simp only[hk,Zac,if_false,pure_bind]
   rw[ih']
   simp only[clOf,hk,Zac,if_false]
theorem Jbn {scope:ZaY}{env:Env}(h:∀x∈scope.names,x.2=.free->∃c,env.cells.lookup x.1=Za c):Zdx scope env=pure (clOf env.cells scope.names []):=by
 have e:=Jgu (env:=env) scope.names [] h
 have e2:Zdx scope env=((forIn scope.names [] (λ (x:Str×Zbe)(r:List (Str×Zj))=>if (x.2==Za7)=Zd then(do let c<-cellOf env x.1;pure (ZaR ((x.1,c)::r))) else pure (ZaR r)):Sem (List (Str×Zj)))>>=λ s=>pure s):=rfl
 rw[e2,e]
 rfl
theorem Jhx {cells:List (Str×Zj)}:∀(names:List (Str×Zbe))(acc:List (Str×Zj)),(∀x c,acc.lookup x=Za c->cells.lookup x=Za c)->∀x c,(clOf cells names acc).lookup x=Za c->cells.lookup x=Za c
 | [],_,h,x,c,e=>h x c e
 | (n,k)::r,acc,h,x,c,e=>by
  refine Jhx r _ ?_ x c e
  intro y d q
  split at q
  ·cases hc:cells.lookup n with
   | none=>rw[hc] at q;exact h y d q
   | some a =>
    rw[hc] at q
    simp only[Zab] at q
    cases hb:y==n with
    | true =>
     rw[hb] at q
     cases q
     rw[beq_iff_eq.mp hb]
     exact hc
    | false =>
     rw[hb] at q
     exact h y d q
  ·exact h y d q
theorem Ji5 {cells:List (Str×Zj)}:∀(names:List (Str×Zbe))(acc:List (Str×Zj))(x:Str),(acc.lookup x).isSome=Zd->((clOf cells names acc).lookup x).isSome=Zd
 | [],_,_,h=>h
 | (n,k)::r,acc,x,h=>by
  refine Ji5 r _ x ?_
  split
  ·cases hc:cells.lookup n with
   | none=>exact h
   | some a =>
    simp only[Zab]
    cases hb:x==n with
    | true=>rfl
    | false=>exact h
  ·exact h
theorem XH {cells:List (Str×Zj)}:∀(names:List (Str×Zbe))(acc:List (Str×Zj))(x:Str)(c:Zj),(x,Za7)∈names->cells.lookup x=Za c->((clOf cells names acc).lookup x).isSome=Zd
 | [],_,_,_,h,_=>by simp at h
 | (n,k)::r,acc,x,c,h,hc=>by
  rcases ZH.mp h with e|e
  ·obtain⟨rfl,rfl⟩:=Prod.mk.inj e
   refine Ji5 r _ _ ?_
   simp[hc]
  ·exact XH r _ x c e hc
theorem Jbd {env:Env}:∀{names:List (Str×Zbe)}{x:Str}{k:Zbe},
  (names.map λ (n,k)=>if (k==Za7&&env.scope.kind==.function&&env.kindOf n==Za .cell) then(n,ZdE) else(n,k)).lookup x=Za k ->
  ∃k0,names.lookup x=Za k0/\(k,k0)∈([(k0,k0),(.cell,.free)]:List (Zbe×Zbe))
 | [],_,_,h=>by simp at h
 | (n,k1)::r,x,k,h=>by
  have ih:=@Jbd env r x k
  have h':ZbB x ((if (k1==Za7&&env.scope.kind==.function&&env.kindOf n==Za .cell)=Zd then(n,ZdE) else(n,k1))::_)=Za k:=h
  cases hx:x==n with
  | true =>
   refine⟨k1,by simp[Zab,hx],?_⟩
   by_cases hc:(k1==Za7&&env.scope.kind==.function&&env.kindOf n==Za .cell)=Zd
   ·rw[if_pos hc] at h'
    simp only[Zab,hx] at h'
    cases h'
    simp only[Zl,beq_iff_eq] at hc
    rw[hc.1.1]
    simp
   ·rw[if_neg hc] at h'
    simp only[Zab,hx] at h'
    cases h'
    simp
  | false =>
   have h2:ZbB x (r.map λ (n,k)=>if (k==Za7&&env.scope.kind==.function&&env.kindOf n==Za .cell) then(n,ZdE) else(n,k))=Za k:=by
    by_cases hc:(k1==Za7&&env.scope.kind==.function&&env.kindOf n==Za .cell)=Zd
    ·rw[if_pos hc] at h';simpa only[Zab,hx] using h'
    ·rw[if_neg hc] at h';simpa only[Zab,hx] using h'
   obtain⟨k0,e,m⟩:=ih h2
   exact⟨k0,by simp only[Zab,hx];exact e,m⟩
theorem Je9 {env:Env}:∀{names:List (Str×Zbe)}{x:Str},names.lookup x=Za .free ->
  ∃k,(names.map λ (n,k)=>if (k==Za7&&env.scope.kind==.function&&env.kindOf n==Za .cell) then(n,ZdE) else(n,k)).lookup x=Za k/\(k=.cell∨k=.free)
 | [],_,h=>by simp at h
 | (n,k1)::r,x,h=>by
  have ih:=@Je9 env r x
  cases hx:x==n with
  | true =>
   simp only[Zab,hx] at h
   cases h
   by_cases hc:(Za7==Za7&&env.scope.kind==.function&&env.kindOf n==Za .cell)=Zd
   ·exact⟨.cell,by rw[Zu];dsimp only;rw[if_pos hc];simp only[Zab,hx],.inl rfl⟩
   ·exact⟨.free,by rw[Zu];dsimp only;rw[if_neg hc];simp only[Zab,hx],.inr rfl⟩
  | false =>
   simp only[Zab,hx] at h
   obtain⟨k,e,q⟩:=ih h
   refine⟨k,?_,q⟩
   rw[Zu]
   dsimp only
   by_cases hc:(k1==Za7&&env.scope.kind==.function&&env.kindOf n==Za .cell)=Zd
   ·rw[if_pos hc];simp only[Zab,hx];exact e
   ·rw[if_neg hc];simp only[Zab,hx];exact e
def cxC (X:Cx)(N':List Str)(scope:ZaY)(C:Zj)(s:Zk)(H:Hp)(fp:List Zj):Cx :=
 { X with N:=N',s₀:=s,H₀:=H,env:=compEnvC scope (clOf X.env.cells scope.names []) C X.env,outer:=X.stack,ex:=fp,fn:=λ _=>Zh,pn:=[] }
def Qe (N0 loc caps:List Str)(js:List Nat)(sc₀ scope:ZaY):Bool :=
 decide (scope.kind=.function)&&decide (sc₀.kind=.function)&&scope.names.all (λ x=>!(x.2==.cell))&&scope.names.all (λ x=>!(x.2==.local)||decide (scope.names.lookup x.1=Za .local)) &&
 scope.names.all (λ x=>!(x.2==.free)||decide (sc₀.names.lookup x.1=Za .cell)||decide (sc₀.names.lookup x.1=Za .free)) &&
 scope.names.all (λ x=>!(decide (scope.names.lookup x.1=Za .free))||(x.2==.free)) &&
 (js.zip caps).all (λ p=>decide (N0[p.1]?=Za p.2)&&decide (scope.names.lookup p.2=Za .free))&&decide (js.length=caps.length)&&decide (loc++caps).Nodup &&
 loc.all (λ n=>decide (scope.names.lookup n=Za .local))
open Classical in
def JQ (chk:IH->Prop)(g:G1)(t:T1)(e:E1)(i0:Nat):List IV->ISt->IH->Res IV
 | [],_,h=>if chk h then .ok (.ref i0) h else .stuck
 | x::xs,σ,h=>if chk h then(match g x σ h with
   | .next σ1 h1=>(match t σ1 h1 with
    | .ok Zd h2=>(match e σ1 h2 with
     | .ok v h3=>(match h3[i0]? with
      | some (.lst acc)=>if acc.length<sizeLine then JQ chk g t e i0 xs σ1 (h3.set i0 (.lst (acc++[v]))) else .stuck
      | _=>.stuck)
     | _=>.stuck)
    | .ok Zh h2=>JQ chk g t e i0 xs σ1 h2
    | _=>.stuck)
   | _=>.stuck) else .stuck
def stC (nloc:Nat)(js:List Nat)(σ:ISt):ISt:=ZO nloc Zc++js.map λ j=>(σ[j]?).join
def Ju (it:I1)(nloc:Nat)(js:List Nat)(g:G1)(t:T1)(e:E1):E1:=λ σ h=>(it σ h).bind λ J h1=>JQ J.chk g t e h1.length J.xs (stC nloc js σ) (h1++[.lst []])
theorem Ji7 {prog:ZA}{w:ZM}{A:ZG}{R:ZdA->Zk->Prop}{s:Zk}{elt target iter:Expr}{ifs:List Expr}{scope:ZaY}{pos:Pos}{it acc:Ze}{env:Env}(I:Nat->Zk->Prop)
  (turn:∀n s,I n s->Zt (Z3 prog w) A (Zcs it) (λ r s₁=>match r with
   | none=>R (.ok .next) s₁
   | some v=>Zt (Z3 prog w) A (Zcz target it v) (λ _ s₁'=>Zt (Z3 prog w) A (Zer target env v) (λ _ s₂ =>
     Zt (Z3 prog w) A (forIn ifs Zd λ c r=>if r=Zd then do let ok<-Ze3 c env (ZaQ c env);pure (ZaR ok) else pure (ZaR r)) (λ ok s₃ =>
      if ok=Zd then Zt (Z3 prog w) A (ZaQ elt env) (λ x s₄ =>
       Zt (Z3 prog w) A (call (.builtin "list.append") [acc,x]) (λ _ s₅=>∃m,m<n/\I m s₅) (λ _ _=>False) s₄) (λ _ _=>False) s₃
      else ∃m,m<n/\I m s₃) (λ _ _=>False) s₂) (λ _ _=>False) s₁') (λ _ _=>False) s₁) (λ _ _=>False) s)
  (n:Nat) (h:I n s):ZbZ (Z3 prog w) A (.compLoop (.ListComp elt [⟨target,iter,ifs,0⟩] scope pos) 0 it acc env) R s:=by
 refine codeAny_loop rfl I (λ n s hI=>?_) n h
 show Zt _ A ((compTurn (.ListComp elt [⟨target,iter,ifs,0⟩] scope pos) 0 it acc env).onRaise (λ x=>do ZdQ x env;theTreesLotGoes x)) _ _ s
 refine wpAny_noted (nof ?_)
 rw[compTurn_list]
 refine Zg (Zbz (Zg (ZP (turn n s hI) (λ r s₁ h₁=>?_) λ _ _ h'=>h')))
 cases r with
 | none=>exact Zv h₁
 | some v =>
  refine Zg (ZP h₁ (λ _ s₁' h₁'=>?_) λ _ _ h'=>h')
  refine Zg (ZP h₁' (λ _ s₂ h₂=>Zg (ZP h₂ (λ ok s₃ h₃=>?_) λ _ _ h'=>h')) λ _ _ h'=>h')
  cases ok with
  | false=>exact Zv ⟨rfl,h₃⟩
  | true =>
   exact Zg (Zg (ZP h₃ (λ x s₄ h₄=>Zg (ZP h₄ (λ _ s₅ h₅=>Zv (Zv ⟨rfl,h₅⟩)) λ _ _ h'=>h')) λ _ _ h'=>h'))
def PTsi (ce:CeT)(X:Cx)(ifs:List Expr)(m:T1):Prop:=PX ce X RB (forIn ifs Zd λ c r=>if r=Zd then do let ok<-Ze3 c X.env (ZaQ c X.env);pure (ZaR ok) else pure (ZaR r)) m
noncomputable def J8:T1:=λ _ h=>.ok Zd h
theorem Jvc {ce:CeT}{X:Cx}:PTsi ce X [] J8:=λ _ s _ H ι _ _ _ _ N K=>wpAny_tests_nil (K Zd s H ι N .refl rfl)
theorem Jq1 {ce:CeT}{X:Cx}{c:Expr}{m:T1}(hc:PTi ce X c m):PTsi ce X [c] m:=λ pj s σ H ι σi h Q E N K=>wpAny_tests_one (hc pj s σ H ι σi h Q E N K)
def Vb (ce:CeT)(X:Cx)(use:Option (Ze->Sem Unit))(pj:PnT)(ι:List Zj)(σi:ISt)(σ:L2.St)(H:Hp)(r:Res IV)(Q:QvT)(E:QvT):Prop :=
 match r with
 | .ok v h'=>∀D C m s' H' ι',Now ce X pj ι' σi h' σ H' s'->Nxt ι H ι' H'->RU X.K ι' H' v (.ref D)->s'.heap.Ns C m->FpOk X pj H' C->compPost (Z3 X.prog X.w) X.A E use Q (.ref D) C (.ok .next) s'
 | .exc n h'=>∀pl a s' H' ι',Now ce X (pj++pl) ι' σi h' σ H' s'->Nxt ι H ι' H'->ι'[n]?=Za a->E (.ref a) s'
 | .stuck=>False
theorem Vb.mono {ce:CeT}{X:Cx}{use:Option (Ze->Sem Unit)}{pj:PnT}{ι ι':List Zj}{σi:ISt}{σ:L2.St}{H H':Hp}{r:Res IV}{Q:QvT}{E:QvT}(k:Vb ce X use pj ι σi σ H r Q E)(n:Nxt ι H ι' H'):Vb ce X use pj ι' σi σ H' r Q E:=by
 cases r with
 | ok v h'=>exact λ D C m s' H2 ι2 N n2 q=>k D C m s' H2 ι2 N (n.trans n2) q
 | exc m h'=>exact λ pl a s' H2 ι2 N n2 q=>k pl a s' H2 ι2 N (n.trans n2) q
 | stuck=>exact k
def Warm (A:ZG)(H:Hp):Prop:=∃a oe u vs,A.handled=Za (.ref a)/\H a=Za (.frz oe u)/\oe.data=.fields vs/\vs[2]?=Za .none
theorem Warm.mono {A:ZG}{H H':Hp}(x:Ext H H')(w:Warm A H):Warm A H':=let ⟨a,oe,u,vs,e1,e2,e3,e4⟩:=w;⟨a,oe,u,vs,e1,x.frzs _ _ _ e2,e3,e4⟩
structure TurnC (P:ZA)(w:ZM)(C:Cx->Hp->Prop)(tg:Expr)(J:It)(fp:List Zj)(it:Zj)(tn:Nat->ZZ->Prop):Prop where
 obj:∀i h,tn i h->∀b∈fp,∃o,h.get? b=Za o/\∀v,o.data≠.cell v
 keep:∀i h h',tn i h->(∀b∈fp,∀o,h.get? b=Za o->h'.get? b=Za o)->tn i h'
 item:∀(X:Cx)(i:Nat)(s:Zk)(σ:L2.St)(H:Hp),C X H->Inv X [] σ H s->(∀b∈fp,FpOk X [] H b)->tn i s.heap->J.go i H ->
  Zt (Z3 P w) X.A (Zcs (.ref it)) (λ r s1=>∃u,r=Za u/\Zt (Z3 P w) X.A (Zcz tg (.ref it) u) (λ _ s2=>∃x H',Inv X [] σ H' s2/\RelV x u/\J.yld i H x H'/\tn (i+1) s2.heap/\∀b∈fp,H' b=Zc) (λ _ _=>False) s1) (λ _ _=>False) s
 done:∀(X:Cx)(i:Nat)(s:Zk)(σ:L2.St)(H:Hp),C X H->Inv X [] σ H s->(∀b∈fp,FpOk X [] H b)->tn i s.heap->J.stop i H->Zt (Z3 P w) X.A (Zcs (.ref it)) (λ r s1=>r=Zc/\Inv X [] σ H s1) (λ _ _=>False) s
 self:∀(A:ZG)(i:Nat)(s:Zk)(Q:QvT)(E:QvT),tn i s.heap->Q (.ref it) s->Zt (Z3 P w) A (Ze4 (.ref it)) Q E s
def J1l (X0:Cx)(X:Cx)(_:Hp):Prop:=X.prog=X0.prog/\X.w=X0.w/\X.K=X0.K/\X.calm=Zd
def Jvk (X0:Cx)(X:Cx)(H:Hp):Prop:=X.prog=X0.prog/\X.w=X0.w/\X.K=X0.K/\Warm X.A H
def RItC (C:Cx->Hp->Prop)(ce:CeT)(X:Cx)(tg:Expr)(pj:PnT)(ι':List Zj)(I:ItI)(itv:Ze)(s2:Zk)(H':Hp):Prop :=
 ∃(it:Zj)(fp:List Zj)(tn:Nat->ZZ->Prop)(J:It),itv=.ref it/\TurnC X.prog X.w C tg J fp it tn/\tn 0 s2.heap/\(∀b∈fp,FpOk X pj H' b)/\ItOk ce X.K ι' H' J I
def PIc (C:Cx->Hp->Prop)(ce:CeT)(X:Cx)(tg iter:Expr)(m:I1):Prop :=
 ∀(pj:PnT)(s:Zk)(σ:L2.St)(H:Hp)(ι:List Zj)(σi:ISt)(h:IH)(Q:QvT)(E:QvT),Now ce X pj ι σi h σ H s ->
  (match m σi h with
   | .ok I h'=>∀itv s' H' ι',Now ce X pj ι' σi h' σ H' s'->Nxt ι H ι' H'->RItC C ce X tg pj ι' I itv s' H'->Q itv s'
   | .exc n h'=>∀pl a s' H' ι',Now ce X (pj++pl) ι' σi h' σ H' s'->Nxt ι H ι' H'->ι'[n]?=Za a->E (.ref a) s'
   | .stuck=>False) ->
  Zt (Z3 X.prog X.w) X.A (ZaQ iter X.env) (λ v s1=>Zt (Z3 X.prog X.w) X.A (Ze4 v) Q E s1) E s
theorem PIi.c {ce:CeT}{X:Cx}{tg iter:Expr}{m:I1}(p:PIi ce X tg iter m):PIc (J1l X) ce X tg iter m:=λ pj s σ H ι σi h Q E N k=>p pj s σ H ι σi h Q E N (by
 cases e:m σi h with
 | exc n h'=>rw[e] at k;exact k
 | stuck=>rw[e] at k;exact k
 | ok I h' =>
  rw[e] at k
  intro itv s' H' ι' N' n' ⟨it,fp,tn,J,e1,T,r⟩
  refine k itv s' H' ι' N' n' ⟨it,fp,tn,J,e1,⟨T.obj,T.keep,λ X' i s σ H c=>?_,λ X' i s σ H c=>?_,T.self⟩,r⟩
  ·exact T.item X' c.1 c.2.1 c.2.2.1 c.2.2.2 i [] s σ H _
  ·exact T.done X' c.1 c.2.1 c.2.2.1 c.2.2.2 i [] s σ H _)
section
variable {ce:CeT}{X:Cx}
theorem Jf6 {N0 loc caps:List Str}{js:List Nat}{sc₀ scope:ZaY}{tg iter elt:Expr}{ifs:List Expr}{mi:I1}{g:G1}{mt:T1}{me:E1}{pos ppos:Pos}{use:Option (Ze->Sem Unit)}{Cc:Cx->Hp->Prop}(hi:PIc Cc ce X tg iter mi)
  (hg:∀C s H fp,PGi ce (cxC X (loc++caps) scope C s H fp) tg g)(ht:∀C s H fp,PTsi ce (cxC X (loc++caps) scope C s H fp) ifs mt)(he:∀C s H fp,PEi ce (cxC X (loc++caps) scope C s H fp) elt me)
  (ok:Qe N0 loc caps js sc₀ scope=Zd)(hN0:X.N=N0:=by rfl)(hsc:X.env.scope=sc₀:=by rfl)(hs:∀x,ZbE iter X.env x=pure x:=by intro _;rfl)
  {pj:PnT}{s:Zk}{σ:L2.St}{H:Hp}{ι:List Zj}{σi:ISt}{h:IH}{Q:QvT}{E:QvT}(hcc:∀C s H1 fp H',Ext H H'->Cc (cxC X (loc++caps) scope C s H1 fp) H')(N:Now ce X pj ι σi h σ H s)(K:Vb ce X use pj ι σi σ H (Ju mi loc.length js g mt me σi h) Q E) :
  Zt (Z3 X.prog X.w) X.A (comprehension (.ListComp elt [⟨tg,iter,ifs,0⟩] scope pos) scope X.env ppos (newList []) Zh (ZaQ iter X.env) use) Q E s:=by
 simp only[Qe,Zl,decide_eq_true_eq,ZbO,ZaO,Za4,beq_iff_eq,beq_eq_false_iff_ne] at ok
 obtain⟨⟨⟨⟨⟨⟨⟨⟨⟨kF,kF0⟩,kNC⟩,kL⟩,kFr⟩,kFx⟩,kJ⟩,kLen⟩,kNd⟩,kLo⟩:=ok
 have hfree:∀x∈scope.names,x.2=.free->X.env.kindOf x.1=Za .cell∨X.env.kindOf x.1=Za .free:=λ x hx hk=>by
  have e:X.env.kindOf x.1=sc₀.names.lookup x.1:=by rw[<- hsc];rfl
  rw[e]
  rcases kFr x hx with(z|z)|z
  ·exact absurd hk z
  ·exact .inl z
  ·exact .inr z
 have hclos:Zdx scope X.env=pure (clOf X.env.cells scope.names []):=Jbn λ x hx hk=>N.inv.ok.has x.1 (hfree x hx hk)
 refine wpAny_comprehension_free (use:=use) (e:=.ListComp elt [⟨tg,iter,ifs,0⟩] scope pos) rfl hs hclos kF (λ x hx hl=>(kL x hx).resolve_left λ z=>z hl) ?_
 refine hi pj s σ H ι σi h _ E N ?_
 unfold Ju at K
 cases e0:mi σi h with
 | exc n h'=>rw[e0] at K;exact K
 | stuck=>rw[e0] at K;exact K
 | ok Jt h1 =>
  rw[e0] at K
  intro itv s1 H1 ι1 N1 n1 RI
  obtain⟨it,fp,tn,J,e,T,st1,f1,OK⟩:=RI
  subst e
  -- the list
  refine ZcM ?_
  have fresh1:H1 s1.heap.objs.size=Zc:=N1.inv.hok.fresh (Zr _)
  have I2:Inv X pj σ (upd H1 s1.heap.objs.size (.lst [])) { s1 with heap:=s1.heap.push { cls:=.type "list",dict:=Zc,data:=.seq ([]:List Ze).toArray } } :=
   N1.inv.laid (t':=s1.toks) (λ b u e=>Zi _ e) (Zr _) ⟨Zaa _,[],0,.nil,Z1 _ rfl⟩
  obtain⟨R2,n2⟩:=N1.rel.alloc (o:=.lst []) (io:=.lst []) fresh1 ⟨[],Jw,rfl⟩
  generalize hs2:({ s1 with heap:=s1.heap.push { cls:=.type "list",dict:=Zc,data:=.seq ([]:List Ze).toArray } }:Zk)=s2 at I2 ⊢
  generalize hD:s1.heap.objs.size=D at *
  generalize hH2:upd H1 D (.lst [])=H2 at *
  have N2:Now ce X pj (ι1++[D]) σi (h1++[.lst []]) σ H2 s2:=⟨I2,R2,N1.st.mono n2⟩
  have keep12:∀b o,s1.heap.get? b=Za o->s2.heap.get? b=Za o:=λ b o q=>by rw[<- hs2];exact Zi _ q
  have st2:tn 0 s2.heap:=T.keep 0 _ _ st1 λ b _ o q=>keep12 b o q
  have hat:(ι1++[D])[h1.length]?=Za D:=by
   rw[<- N1.rel.len,Z4 (Zr _)]
   simp
  have f2:∀b∈fp,FpOk X pj H2 b:=λ b hb=>by
   refine⟨?_,(f1 b hb).2⟩
   obtain⟨o,ho,_⟩:=T.obj 0 _ st1 b hb
   have:b≠D:=Z6 (by rw[<- hD];exact Z0 ho)
   rw[<- hH2,Jl this]
   exact(f1 b hb).1
  -- the block's own dict
  refine wpAny_newFunctionEnv (λ x hx=>kNC x hx) (by intro y hy;simp at hy) (λ h3 hns3 hsb3=>?_) kF
  generalize hC:s2.heap.objs.size=C at *
  have keep23:∀b o,s2.heap.get? b=Za o->h3.get? b=Za o:=λ b o q=>(hsb3.2 b (Z6 (by rw[<- hC];exact Z0 q))).trans (Zi _ q)
  have cells':∀x c,(clOf X.env.cells scope.names []).lookup x=Za c->X.env.cells.lookup x=Za c:=Jhx _ _ (λ x c q=>by simp at q)
  -- the context of the block
  have okX:(cxC X (loc++caps) scope C s2 H2 fp).Ok:=by
   refine⟨N.inv.ok.mod,kF,N.inv.ok.glob,N.inv.ok.blt,ZcJ hC,λ x y c a b=>N.inv.ok.inj x y c (cells' x c a) (cells' y c b),λ x hx=>?_,λ x c z=>?_,N.inv.ok.hd,N.inv.ok.frames,.inl rfl,λ b hb=>?_,λ b o q=>I2.bs b o q,
    Zal N.inv.ok.bsz I2.sz,λ b o q hb=>?_,λ b hb z=>?_,I2.stack,I2.stkFree⟩
   ·have hx':(relabel scope X.env).names.lookup x=Za .cell∨(relabel scope X.env).names.lookup x=Za .free:=hx
    have hfr:scope.names.lookup x=Za .free:=by
     rcases hx' with z|z
     ·obtain⟨k0,e,m⟩:=Jbd z
      simp only[ZH,Prod.mk.injEq,ZaJ,or_false] at m
      rcases m with⟨m1,_⟩|⟨_,m2⟩
      ·exact absurd (kNC _ (Zae e)) (by rw[<- m1];intro q;exact q rfl)
      ·rw[m2] at e;exact e
     ·obtain⟨k0,e,m⟩:=Jbd z
      simp only[ZH,Prod.mk.injEq,ZaJ,or_false] at m
      rcases m with⟨m1,_⟩|⟨m1,_⟩
      ·rw[<- m1] at e;exact e
      ·cases m1
    have hm:=Zae hfr
    obtain⟨c,hc'⟩:=N.inv.ok.has x (hfree (x,.free) hm rfl)
    exact Za6.mp (XH _ _ x c hm hc')
   ·exact absurd (show Zh=Zd from z) Zq
   ·have hbD:=f2 b hb
    obtain⟨o,ho,_⟩:=T.obj 0 _ st2 b hb
    exact⟨Z6 (by show b<C;rw[<- hC];exact Z0 ho),λ x c q=>hbD.2.2.2.2.1 x c (cells' x c q)⟩
   ·rcases(f2 b hb).2.2.2.1 with z|z
    ·exact N.inv.ok.noex b o q z
    ·exact Zcu _ (ZJ (Z0 q) (Zal N.inv.ok.bsz z))
   ·rcases ZH.mp (I2.stkSub b z) with e|e
    ·exact(f2 b hb).2.1 e
    ·exact(f2 b hb).2.2.1 e
  -- the block's state
  have lenJ:js.length=caps.length:=kLen
  have stl:(stC loc.length js σi).length=(loc++caps).length:=by simp[stC,lenJ]
  have R3:Rel ce X.K (ι1++[D]) (h1++[.lst []]) H2:=R2
  have I3:Inv (cxC X (loc++caps) scope C s2 H2 fp) [] (ZO loc.length Zc++js.map λ j=>(σ[j]?).join) H2 { s2 with heap:=h3,toks:=s2.toks+([]:List (Str×Ze)).length }:=by
   refine⟨okX,rfl,I2.bare,Un.kept keep23,⟨_,hns3,λ i x v a b c=>?_⟩,λ x c q=>?_,I2.hok.fresh (ZcJ hC),λ x c q=>I2.freeC x c (cells' x c q),λ p hp=>absurd (show p∈([]:PnT) from hp) (by simp),I2.hok.kept keep23,by show _=(loc++caps).length;simp[lenJ]⟩
   ·have hi:loc.length<=i:=by
     refine ZdM λ hlt=>?_
     rw[ZC (by simpa using hlt),ZbL] at b
     split at b<;>cases b
    obtain⟨k,rfl⟩:∃k,i=loc.length+k:=⟨i-loc.length,by omega⟩
    have a':(loc++caps)[loc.length+k]?=Za x:=a
    rw[Z4 (by omega)] at a'
    rw[Z4 (by simp)] at b
    simp only[ZdS,ZbX,Z7] at a' b
    cases ej:js[k]? with
    | none=>rw[ej] at b;cases b
    | some j =>
     rw[ej] at b
     have b':(σ[j]?).join=Za v:=Zad b
     have hσ:σ[j]?=Za (Za v):=by
      cases es:σ[j]? with
      | none=>rw[es] at b';cases b'
      | some o=>rw[es] at b';rw[show o=Za v from b']
     have hz:=kJ (j,x) (Zek.mpr ⟨k,by rw[List.getElem?_zip_eq_some];exact⟨ej,a'⟩⟩)
     obtain⟨hx1,hx2⟩:=hz
     obtain⟨m,hn,hl⟩:=I2.loc
     have hk:=hfree (x,.free) (Zae hx2) rfl
     obtain⟨u,ru,lk⟩:=hl j x v (by rw[hN0];exact hx1) hσ (by rcases hk with q|q;exact .inr (.inl q);exact .inr (.inr q))
     rcases lk with⟨q,_⟩|⟨q,c,hc',hcell⟩
     ·rcases hk with q'|q'<;>(rw[q'] at q;cases q)
     ·obtain⟨kk,ek,hkk⟩:=Je9 (env:=X.env) hx2
      have hcl:=XH (cells:=X.env.cells) scope.names [] x c (Zae hx2) hc'
      obtain⟨c',hc2⟩:=Za6.mp hcl
      have:=cells' x c' hc2
      rw[hc'] at this
      cases this
      obtain⟨oc,hoc,hd⟩:=hcell
      refine⟨u,ru,.inr ⟨?_,c,hc2,oc,keep23 _ _ hoc,hd⟩⟩
      rcases hkk with rfl|rfl
      ·exact .inl ek
      ·exact .inr ek
   ·obtain⟨v,o,ho,hd⟩:=I2.cell x c (cells' x c q)
    exact⟨v,o,keep23 _ _ ho,hd⟩
  have N3:Now ce (cxC X (loc++caps) scope C s2 H2 fp) [] (ι1++[D]) (stC loc.length js σi) (h1++[.lst []]) (ZO loc.length Zc++js.map λ j=>(σ[j]?).join) H2 { s2 with heap:=h3,toks:=s2.toks+([]:List (Str×Ze)).length }:=by
   refine⟨I3,R3,by simp[stC],λ i v q=>?_⟩
   unfold stC at q
   have hi:loc.length<=i:=by
    refine ZdM λ hlt=>?_
    rw[ZC (by simpa using hlt),ZbL] at q
    split at q<;>cases q
   rw[Z4 (by simpa using hi)] at q
   simp only[ZbX,Z7] at q
   cases ej:js[i-loc.length]? with
   | none=>rw[ej] at q;cases q
   | some j =>
    rw[ej] at q
    have q':(σi[j]?).join=Za v:=Zad q
    have hσ:σi[j]?=Za (Za v):=by
     cases es:σi[j]? with
     | none=>rw[es] at q';cases q'
     | some o=>rw[es] at q';rw[show o=Za v from q']
    obtain⟨u,hu,qu⟩:=N2.st.at_ j v hσ
    refine⟨u,?_,qu⟩
    rw[Z4 (by simpa using hi)]
    simp only[ZbX,Z7,ej,ZbA,hu]
    rfl
  have st3:tn 0 h3:=T.keep 0 _ _ st2 λ b _ o q=>keep23 b o q
  have K2:Vb ce X use pj (ι1++[D]) σi σ H2 (JQ Jt.chk g mt me h1.length Jt.xs (stC loc.length js σi) (h1++[.lst []])) Q E:=Vb.mono (r:=JQ Jt.chk g mt me h1.length Jt.xs (stC loc.length js σi) (h1++[.lst []])) K (n1.trans n2)
  have loop:ZbZ (Z3 X.prog X.w) X.A (.compLoop (.ListComp elt [⟨tg,iter,ifs,0⟩] scope pos) 0 (.ref it) (.ref D) (compEnvC scope (clOf X.env.cells scope.names []) C X.env)) (compPost (Z3 X.prog X.w) X.A E use Q (.ref D) C)
    { s2 with heap:=h3,toks:=s2.toks+([]:List (Str×Ze)).length }:=by
   refine Ji7 (λ n s'=>∃k ιk σk hk σ' H',Now ce (cxC X (loc++caps) scope C s2 H2 fp) [] ιk σk hk σ' H' s'/\Nxt (ι1++[D]) H2 ιk H'/\tn k s'.heap/\(∀b∈fp,H' b=Zc)/\n=Jt.xs.length-k/\k<=Jt.xs.length/\Vb ce X use pj ιk σi σ H' (JQ Jt.chk g mt me h1.length (Jt.xs.drop k) σk hk) Q E) ?_ Jt.xs.length
    ⟨0,ι1++[D],stC loc.length js σi,h1++[.lst []],_,H2,N3,.refl,st3,λ b hb=>(f2 b hb).1,by simp,Zaa _,by simpa using K2⟩
   have stat:∀{H':Hp},(∀b∈fp,H' b=Zc)->∀b∈fp,FpOk (cxC X (loc++caps) scope C s2 H2 fp) [] H' b:=λ hn b hb =>
    ⟨hn b hb,(okX.exf b hb).1,okX.exfs b hb,.inl hb,(okX.exf b hb).2,λ p hp=>absurd (show p∈([]:PnT) from hp) (by simp)⟩
   rintro n s4 ⟨k,ιk,σk,hk,σ4,H4,N4,n4,st4,fr4,rfl,hkl,K4⟩
   by_cases hlt:k<Jt.xs.length
   ·have hd:Jt.xs.drop k=Jt.xs[k]::Jt.xs.drop (k+1):=Zay hlt
    rw[hd] at K4
    unfold JQ at K4
    split at K4
    ·rename_i hck
     obtain⟨go,yl⟩:=OK.go k Jt.xs[k] hk H4 ιk (n2.trans n4) N4.rel hck (Zb hlt)
     refine thn (T.item (cxC X (loc++caps) scope C s2 H2 fp) k s4 σ4 H4 (hcc _ _ _ _ _ (n1.trans (n2.trans n4)).ext) N4.inv (stat fr4) st4 go) λ r s5 ⟨u,hr,h5⟩=>?_
     subst hr
     refine thn h5 λ _ s6 ⟨x,H6,I6,r6,y6,st6,fr6⟩=>?_
     obtain⟨R6,n6,q6⟩:=yl x H6 y6
     have I6':=I6.pinned (stat fr6) (T.obj _ _ st6)
     have N6:Now ce (cxC X (loc++caps) scope C s2 H2 fp) ([]++Qy fp s6.heap) ιk σk hk σ4 H6 s6:=⟨I6',R6,N4.st.mono n6⟩
     have again:∀{σ7:L2.St}{H7:Hp}{s7:Zk}{σ7i:ISt}{h7:IH}{ι7:List Zj},Now ce (cxC X (loc++caps) scope C s2 H2 fp) ([]++Qy fp s6.heap) ι7 σ7i h7 σ7 H7 s7->Nxt ιk H6 ι7 H7->Vb ce X use pj ιk σi σ H4 (JQ Jt.chk g mt me h1.length (Jt.xs.drop (k+1)) σ7i h7) Q E ->
       ∃m,m<Jt.xs.length-k/\∃k ιk σk hk σ' H',Now ce (cxC X (loc++caps) scope C s2 H2 fp) [] ιk σk hk σ' H' s7/\Nxt (ι1++[D]) H2 ιk H'/\tn k s7.heap/\(∀b∈fp,H' b=Zc)/\m=Jt.xs.length-k/\k<=Jt.xs.length/\Vb ce X use pj ιk σi σ H' (JQ Jt.chk g mt me h1.length (Jt.xs.drop k) σk hk) Q E :=
      λ {σ7 H7 s7 σ7i h7 ι7} N7 n7 K7=>by
       have nn:Nxt ιk H4 ι7 H7:=n6.trans n7
       refine⟨Jt.xs.length-(k+1),by omega,k+1,ι7,σ7i,h7,σ7,H7,N7.pins,n4.trans nn,T.keep _ _ _ st6 λ b hb o e=>(N7.inv.pin (b,o) (Zx _ (Zx _ (XX hb e)))).1,λ b hb=>?_,rfl,hlt,K7.mono nn⟩
       obtain⟨o,e,d⟩:=T.obj _ _ st6 b hb
       exact(N7.inv.pin (b,o) (Zx _ (Zx _ (XX hb e)))).2.1
     cases eg:g Jt.xs[k] σk hk with
     | next σg hgg =>
      rw[eg] at K4
      dsimp only at K4
      refine hg C s2 H2 fp _ s6 σ4 H6 ιk σk hk _ u (λ _ s7=>Zt (Z3 X.prog X.w) X.A (forIn ifs Zd λ c r=>if r=Zd then do let ok<-Ze3 c _ (ZaQ c _);pure (ZaR ok) else pure (ZaR r)) _ _ s7) (λ _ _=>False) N6 ⟨x,r6,q6⟩ ?_
      rw[eg]
      intro s7 σ7 H7 ι7 N7 n7
      refine ht C s2 H2 fp _ s7 σ7 H7 ι7 σg hgg _ (λ _ _=>False) N7 ?_
      cases et:mt σg hgg with
      | ok c h8 =>
       rw[et] at K4
       intro d s8 H8 ι8 N8 n8 rd
       have rd':d=c:=rd
       subst rd'
       cases d with
       | false=>exact again N8 (n7.trans n8) K4
       | true =>
        dsimp only at K4
        refine he C s2 H2 fp _ s8 σ7 H8 ι8 σg h8 _ (λ _ _=>False) N8 ?_
        cases ee:me σg h8 with
        | ok v h9 =>
         rw[ee] at K4
         dsimp only at K4
         intro w s9 H9 ι9 N9 n9 rw9
         have hat9:ι9[h1.length]?=Za D:=(((n4.trans n6).trans n7).trans (n8.trans n9)).at hat
         cases hl:h9[h1.length]? with
         | none=>rw[hl] at K4;exact Zf K4
         | some ob =>
          rw[hl] at K4
          cases ob with
          | lst acc =>
           dsimp only at K4
           split at K4
           ·rename_i hz
            obtain⟨vs,eD,rD⟩:=N9.at hl hat9
            obtain⟨wv,rw9,qw⟩:=rw9
            have ap:=Jju (X:=(cxC X (loc++caps) scope C s2 H2 fp).wish λ _ _=>False) ([]++Qy fp s6.heap) s9 σ7 H9 (.ref D) [wv] (.ref D) [w] (λ _ H'=>H'=upd H9 D (.lst (vs++[wv]))) (N9.inv.wish _) rfl (.cons rw9 .nil) ⟨D,vs,wv,rfl,rfl,eD,by rw[rD.length];exact hz,rfl⟩
            refine ZP ap (λ _ s10 hq=>?_) λ _ _ z=>z
            obtain⟨z,H10,I10,_,rfl⟩:=hq
            have n10:Nxt ι9 H9 ι9 (upd H9 D (.lst (vs++[wv]))):=⟨⟨[],by simp⟩,Ext.upd_mut eD (by rw[eD];exact ZaK)⟩
            obtain⟨R10,_⟩:=N9.rel.write (o:=.lst (vs++[wv])) (io:=.lst (acc++[v])) hat9 eD (by rw[eD];exact ZaK) ⟨_,Jw,(RVs.mono n10 _ _ rD).append (RVs.one (RV.mono n10 _ _ qw))⟩
            exact again ⟨I10.unwish,R10,N9.st.mono n10⟩ (((n7.trans n8).trans n9).trans n10) K4
           ·exact Zf K4
          | _=>exact Zf K4
        | _=>rw[ee] at K4;exact Zf K4
      | _=>rw[et] at K4;exact Zf K4
     | _=>rw[eg] at K4;exact Zf K4
    ·exact Zf K4
   ·have hke:Jt.xs.drop k=[]:=ZcN (by omega)
    rw[hke] at K4
    unfold JQ at K4
    split at K4
    ·rename_i hck
     have stop:=OK.stop k hk H4 ιk (n2.trans n4) N4.rel hck (by omega)
     refine thn (T.done (cxC X (loc++caps) scope C s2 H2 fp) k s4 σ4 H4 (hcc _ _ _ _ _ (n1.trans (n2.trans n4)).ext) N4.inv (stat fr4) st4 stop) λ r s5 ⟨hr,I5⟩=>?_
     subst hr
     obtain⟨m,hnm,_⟩:=I5.loc
     -- back to the def's own frame
     have hos:s5.os=s2.os:=I5.os
     obtain⟨hp5,g5,d5,t5,os5⟩:=s5
     obtain rfl:os5=s2.os:=hos
     have J5:Inv X pj σ H4 { s2 with heap:=hp5,gens:=g5,drawn:=d5,toks:=t5 }:=I2.call (ch:=fp) I5.base I5.hok I5.bare λ b hb=>⟨(f2 b hb).2.2.2.1,(f2 b hb).2.1,(f2 b hb).2.2.2.2.1,(f2 b hb).2.2.2.2.2⟩
     have fC:FpOk X pj H4 C:=I2.fpOk (ZcJ hC) I5.free
     exact K4 D C m _ H4 ιk ⟨J5,N4.rel,(N2.st.mono n4)⟩ .refl ⟨.ref D,rfl,D,rfl,n4.at hat⟩ hnm fC
    ·exact Zf K4
  exact codeAny_compStart_list loop (T.self X.A 0 _ _ _ st3 loop)
theorem Now.letgo {pj:PnT}{ι:List Zj}{σi:ISt}{h:IH}{σ:L2.St}{H:Hp}{s:Zk}{C:Zj}{h':ZZ}(N:Now ce X pj ι σi h σ H s)(fC:FpOk X pj H C)(sb:ZcG C s.heap h'):Now ce X pj ι σi h σ H { s with heap:=h' } :=
 ⟨N.inv.turned (it:=C) (t':=s.toks) (λ b o hb q=>(sb.2 b hb).trans q) fC.1 fC.2.1 fC.2.2.2.1 fC.2.2.2.2.1 fC.2.2.2.2.2,N.rel,N.st⟩
theorem Jus {N0 loc caps:List Str}{js:List Nat}{sc₀ scope:ZaY}{tg iter elt:Expr}{ifs:List Expr}{mi:I1}{g:G1}{mt:T1}{me:E1}{pos:Pos}(hc:X.calm=Zd)(hi:PIi ce X tg iter mi)
  (hg:∀C s H fp,PGi ce (cxC X (loc++caps) scope C s H fp) tg g)(ht:∀C s H fp,PTsi ce (cxC X (loc++caps) scope C s H fp) ifs mt)(he:∀C s H fp,PEi ce (cxC X (loc++caps) scope C s H fp) elt me)
  (ok:Qe N0 loc caps js sc₀ scope=Zd)(hN0:X.N=N0:=by rfl)(hsc:X.env.scope=sc₀:=by rfl)(hs:∀x,ZbE iter X.env x=pure x:=by intro _;rfl):PEi ce X (.ListComp elt [⟨tg,iter,ifs,0⟩] scope pos) (Ju mi loc.length js g mt me):=by
 intro pj s σ H ι σi h Q E N K
 rw[eval_ListComp]
 refine Jf6 hi.c hg ht he ok hN0 hsc hs (λ _ _ _ _ _ _=>⟨rfl,rfl,rfl,hc⟩) N ?_
 cases e0:Ju mi loc.length js g mt me σi h with
 | exc n h'=>rw[e0] at K;exact K
 | stuck=>rw[e0] at K;exact K
 | ok v h' =>
  rw[e0] at K
  exact λ D C m s' H' ι' N' n' r hns fC=>⟨m,hns,λ h2 sb=>K _ _ H' ι' (N'.letgo fC sb) n' r⟩
theorem Ju6 {N0 loc caps:List Str}{js:List Nat}{sc₀ scope:ZaY}{tg iter elt:Expr}{ifs:List Expr}{mi:I1}{g:G1}{mt:T1}{me:E1}{pos pos2 pos3:Pos}{i:Nat}{x:Str}(hc:X.calm=Zd)(hi:PIi ce X tg iter mi)
  (hg:∀C s H fp,PGi ce (cxC X (loc++caps) scope C s H fp) tg g)(ht:∀C s H fp,PTsi ce (cxC X (loc++caps) scope C s H fp) ifs mt)(he:∀C s H fp,PEi ce (cxC X (loc++caps) scope C s H fp) elt me)
  (ok:Qe N0 loc caps js sc₀ scope=Zd)(hN0:X.N=N0:=by rfl)(hsc:X.env.scope=sc₀:=by rfl)(hs:∀x,ZbE iter X.env x=pure x)
  (hN:X.N.Nodup)(hix:X.N[i]?=Za x)(hlx:Loc X.env.scope x)(hf:X.fn x=Zd∨X.env.scope.names.lookup x=Za .local)
  (hsw:ZcD (.ListComp elt [⟨tg,iter,ifs,0⟩] scope pos) (Za (.Name x pos2)) pos3.line X.env=pure Zd) :
  PS1 ce X (.Assign [.Name x pos2] (.ListComp elt [⟨tg,iter,ifs,0⟩] scope pos) pos3) (Jk i (Ju mi loc.length js g mt me)):=by
 intro pj s σ H ι σi h Q E N K
 rw[exec_Assign_Name_used _ _ _ _ hsw]
 refine Zg (Zbz (Zg ?_))
 rw[arm_evalThenUse_ListComp]
 refine Zg ?_
 refine Jf6 (use:=Za (Zer (.Name x pos2) X.env)) hi.c hg ht he ok hN0 hsc hs (λ _ _ _ _ _ _=>⟨rfl,rfl,rfl,hc⟩) N ?_
 unfold Jk at K
 cases e0:Ju mi loc.length js g mt me σi h with
 | exc n h'=>rw[e0] at K;exact λ pl a s' H' ι' N' n' q=>K pl a s' σ H' ι' N' n' q s' (.inl rfl)
 | stuck=>rw[e0] at K;exact K
 | ok v h' =>
  rw[e0] at K
  intro D C m s' H' ι' N' n' r hns fC
  obtain⟨w,rw',q⟩:=r
  obtain⟨oC,es,ep,hoC,hdC,hrest⟩:=id hns
  have hp:Inv X (pj++Qy [C] s'.heap) σ H' s':=N'.inv.pinned (λ b hb=>(show b=C by simpa using hb)▸fC) (λ b hb=>by
   have e:b=C:=by simpa using hb
   subst e
   exact⟨oC,hoC,λ v z=>by rw[hdC] at z;cases z⟩)
  refine wpAny_assign_Name (Yc hp hN hix hlx rw' (λ s2 I2=>?_) hf)
  have hC2:=(I2.pin (C,oC) (Zx _ (Zx _ (XX (by simp) hoC)))).1
  refine⟨m,⟨oC,es,ep,hC2,hdC,hrest⟩,λ h2 sb=>Zv ?_⟩
  have N2:Now ce X pj ι' (σi.set i (Za v)) h' (σ.set i (Za w)) H' s2:=⟨I2.unpinned,N'.rel,N'.st.set i q⟩
  exact Zv (K _ _ H' ι' (N2.letgo fC sb) n')
def QW (x:Str):List IV:=x.cps.toList.map λ c=>.str ⟨#[c]⟩
def Its (x:Str):It:=⟨λ i _=>i<x.cps.size,λ i H y H'=>H'=H/\∃c,x.cps[i]?=Za c/\y=.str ⟨#[c]⟩,λ i _=>x.cps.size<=i⟩
theorem Jmh {P:ZA}{w:ZM}{K:W.Frag}{tg:Expr}{ty:String}{x:Str}{t:Tok}(it:Zj)(hty:["enumerate","zip","dict_itemiterator","dict_reverseitemiterator","odict_iterator","itertools.zip_longest","itertools.pairwise"].contains ty=Zh)
  (W:∀A:ZG,A.handled=Zc->Walks P w A it [it] [it] x.cps.size (SignAt x) (λ i h=>h.IsStrIter it ty x t i))
  (We:∀(A:ZG)(E:QvT)(s:Zk)(i:Nat)(Q:Option Ze->Zk->Prop),A.handled=Zc->s.heap.IsStrIter it ty x t i->x.cps[i]?=Zc->(∀h',Zeq it s.heap h'->Q Zc { s with heap:=h' })->Zt (Z3 P w) A (Zcs (.ref it)) Q E s)
  (Ws:∀(A:ZG)(E:QvT)(s:Zk)(i:Nat)(Q:QvT),s.heap.IsStrIter it ty x t i->Q (.ref it) s->Zt (Z3 P w) A (Ze4 (.ref it)) Q E s):Turn P w K tg (Its x) [it] it (λ i h=>h.IsStrIter it ty x t i) where
 mem:=by simp
 obj:=λ i h st b hb=>by
  have e:b=it:=by simpa using hb
  subst e
  obtain⟨o,e,c,d⟩:=st
  exact⟨o,e,λ v z=>by rw[d] at z;cases z⟩
 keep:=λ i h h' st k=>by
  obtain⟨o,e,r⟩:=st
  exact⟨o,k it (by simp) o e,r⟩
 item:=by
  intro X hP hw hK hc i pj s σ H E I hf st hg
  subst hP hw hK
  obtain⟨f0,f1,f2,f3,f4,f5⟩:=hf it (by simp)
  refine(W X.A (I.ok.hd hc)).item i s _ _ hg st λ v h' tk hv st' kk=>?_
  obtain⟨c,u,hcc,rfl⟩:=hv
  have I1:Inv X pj σ H { s with heap:=h',toks:=tk }:=I.turned (λ b o hb e=>kk b o (by simpa using hb) e) f0 f1 f3 f4 f5
  obtain⟨o,e,c1,d1⟩:=id st'
  exact⟨_,rfl,Xe (s:={ s with heap:=h',toks:=tk }) e c1 d1 hty ⟨.str ⟨#[c]⟩,H,I1,⟨u,rfl⟩,⟨rfl,c,hcc,rfl⟩,st',λ b hb=>(hf b hb).1⟩⟩
 done:=by
  intro X hP hw hK hc i pj s σ H E I hf st hg
  subst hP hw hK
  obtain⟨f0,f1,f2,f3,f4,f5⟩:=hf it (by simp)
  have hi:x.cps.size<=i:=hg
  have hx:x.cps[i]?=Zc:=by simp[hi]
  exact We X.A _ s i _ (I.ok.hd hc) st hx λ h' eb=>⟨rfl,I.turned (t':=s.toks) (λ b o hb e=>eb b o hb e) f0 f1 f3 f4 f5⟩
 self:=λ A i s Q E st h=>Ws A E s i Q st h
def Jst:IV->IH->Res ItI
 | .str x,h=>.ok ⟨QW x,λ _=>True⟩ h
 | _,_=>.stuck
def iStr (e:E1):I1:=λ σ h=>(e σ h).bind Jst
theorem Juw {x:Str}{ι:List Zj}{H₀:Hp}:ItOk ce X.K ι H₀ (Its x) ⟨QW x,λ _=>True⟩:=by
 refine⟨λ k v h H ι' hp R hck hx=>?_,λ k h H ι' hp R hck hx=>?_⟩
 ·have hk:k<x.cps.size:=by
   have:=(Zo.mp hx).1
   simpa [QW] using this
  refine⟨hk,λ y H' hy=>?_⟩
  obtain⟨rfl,c,hc,rfl⟩:=hy
  simp only[QW,Z7,Array.getElem?_toList,hc] at hx
  cases hx
  exact⟨R,.refl,rfl⟩
 ·have:(QW x).length=x.cps.size:=by simp[QW]
  show x.cps.size<=k
  rw[<- this]
  exact hx
theorem Jng {tg l:Expr}{ml:E1}(hl:PEi ce X l ml):PIi ce X tg l (iStr ml):=by
 intro pj s σ H ι σi h Q E N K
 refine hl pj s σ H ι σi h _ E N ?_
 unfold iStr at K
 cases e0:ml σi h with
 | exc n h'=>rw[e0] at K;exact K
 | stuck=>rw[e0] at K;exact K
 | ok v h' =>
  rw[e0] at K
  intro u s1 H1 ι1 N1 n1 r1
  obtain⟨w,rw',q⟩:=r1
  have Zeg:∀b∈[s1.heap.objs.size],FpOk X pj H1 b:=λ b hb=>by
   have e:b=s1.heap.objs.size:=by simpa using hb
   subst e
   exact N1.inv.fpOk (Zr _) (N1.inv.hok.fresh (Zr _))
  cases v with
  | str x =>
   have e1:w=.str x:=q
   subst e1
   obtain⟨t,rfl⟩:=rw'
   simp only[Res.bind,Jst] at K
   cases ha:x.cps.all (· < 128) with
   | true =>
    refine wpAny_pyIter_ascii ha (K _ _ H1 ι1 ⟨N1.inv.kept (t':=s1.toks) λ b o e=>Zi _ e,N1.rel,N1.st⟩ n1 ?_)
    exact⟨s1.heap.objs.size,[s1.heap.objs.size],_,Its x,rfl,Jmh (ty:="str_ascii_iterator") (t:=t) _ (by decide) (λ A hA=>Walks.strAscii hA _ x t) (λ A E s i Q hA st hx hQ=>wpAny_pyNext_ascii_end hA st hx hQ) (λ A E s i Q st hq=>wpAny_pyIter_striter_ascii st hq),⟨_,Z1 _ rfl,rfl,rfl⟩,Zeg,Juw⟩
   | false =>
    refine wpAny_pyIter_wide ha (K _ _ H1 ι1 ⟨N1.inv.kept (t':=s1.toks) λ b o e=>Zi _ e,N1.rel,N1.st⟩ n1 ?_)
    exact⟨s1.heap.objs.size,[s1.heap.objs.size],_,Its x,rfl,Jmh (ty:="str_iterator") (t:=t) _ (by decide) (λ A hA=>Walks.strWide hA _ x t) (λ A E s i Q hA st hx hQ=>wpAny_pyNext_wide_end hA st hx hQ) (λ A E s i Q st hq=>wpAny_pyIter_striter_wide st hq),⟨_,Z1 _ rfl,rfl,rfl⟩,Zeg,Juw⟩
  | _=>simp only[Res.bind,Jst] at K
def Ite (K:W.Frag)(a:Zj):It :=
 ⟨λ i H=>∃xs x,SqL K H a xs/\xs[i]?=Za x,λ i H y H'=>∃p x,H p=Zc/\y=.ref p/\H'=upd H p (.tup [.int (i:Int),x])/\∀xs,SqL K H a xs->xs[i]?=Za x,λ i H=>∃xs,SqL K H a xs/\xs.length<=i⟩
theorem Jq2 {P:ZA}{w:ZM}{K:W.Frag}{es:List Expr}{k:Nat}{p:Pos}(a it e:Zj)(hne:e≠it):Turn P w K (.Tuple es k p) (Ite K a) [e,it] e (λ i h=>(∃old,IsEnum h e it (i:Int) old)/\h.IsListIter it a i) where
 mem:=by simp
 obj:=λ i h st b hb=>by
  obtain⟨⟨old,he⟩,o,e1,c,d⟩:=st
  simp only[ZH,ZaJ,or_false] at hb
  rcases hb with rfl|rfl
  ·exact⟨_,he,λ v z=>by
    have z':Data.fields _=ZeM v:=z
    cases z'⟩
  ·exact⟨o,e1,λ v z=>by rw[d] at z;cases z⟩
 keep:=λ i h h' st k=>⟨let ⟨old,he⟩:=st.1;⟨old,k e (by simp) _ he⟩,st.2.at λ o e=>k it (by simp) o e⟩
 item:=by
  intro X hP hw hK hc i pj s σ H E I hf st hg
  subst hP hw hK
  obtain⟨⟨old,he⟩,hit⟩:=st
  obtain⟨xs,x,hq,hx⟩:=hg
  obtain⟨its,rv,pl,hz⟩:=I.list hq
  obtain⟨u,hu,ru⟩:=rv.get hx
  have fe:=hf e (by simp)
  have fi:=hf it (by simp)
  have hn:H s.heap.objs.size=Zc:=I.hok.fresh (Zr _)
  refine wpAny_pyNext_enum_item he hit pl.isList (x:=u) (by simpa using hu) hne λ h' he' hit' ht hsz kk=>?_
  refine⟨_,rfl,wpAny_letOwnedTupleGo_enum he' λ h2 he2 sb=>?_⟩
  have ltE:e<s.heap.objs.size:=Z0 he
  have neT:s.heap.objs.size≠e:=Zbi ltE
  have k2:∀b o,b≠e->b≠it->s.heap.get? b=Za o->h2.get? b=Za o:=λ b o h1 h3 q=>(sb.2 b h1).trans (kk b o h1 h3 q)
  have hl2:h2.IsListIter it a (i+1):=by
   obtain⟨o,q,r⟩:=hit'
   exact⟨o,(sb.2 it (ZT hne)).trans q,r⟩
  have t2:h2.get? s.heap.objs.size=Za { cls:=.type "tuple",data:=.seq #[.int i s.toks,u] }:=(sb.2 _ neT).trans ht
  -- the two records turn, then the tuple is tracked
  obtain⟨oe,hoe⟩:∃o,s.heap.get? e=Za o:=⟨_,he⟩
  obtain⟨oi,hoi,_⟩:=id hit
  have neP:∀b u,H b=Za u->b≠s.heap.objs.size:=λ b u q=>QR q hn
  have I1:Inv X pj σ (upd H s.heap.objs.size (.tup [.int (i:Int),x])) { s with heap:=h2,toks:=s.toks+1 }:=by
   refine I.step (g':=s.gens) (d':=s.drawn) (ch:=[e,it]) (λ b hb=>?_) (λ b o _ _ hc q _=>k2 b o (λ z=>hc (by simp[z])) (λ z=>hc (by simp[z])) q) (λ b o _ _ hc q _=>⟨o.slots,k2 b o (λ z=>hc (by simp[z])) (λ z=>hc (by simp[z])) q⟩) (λ b o _ q n=>?_)
    (λ b o hc q=>⟨o,k2 b o (λ z=>hc (by simp[z])) (λ z=>hc (by simp[z])) q⟩) (λ b xs q=>by rw[Jl (neP b _ q)];exact q) (λ b o u q=>by rw[Jl (neP b _ q)];exact q) (λ b ps q=>⟨#[],by rw[Jl (neP b _ q),q];simp⟩) (λ m hm=>?_) (λ b u q=>?_) I.bare
   ·simp only[ZH,ZaJ,or_false] at hb
    rcases hb with rfl|rfl
    ·exact⟨fe.2.2.2.1,fe.2.1,fe.2.2.2.2.1,fe.2.2.2.2.2⟩
    ·exact⟨fi.2.2.2.1,fi.2.1,fi.2.2.2.2.1,fi.2.2.2.2.2⟩
   ·rw[Jl (Z6 (Z0 q))];exact n
   ·obtain⟨o,es,ep,ho,r⟩:=hm
    exact⟨o,es,ep,k2 _ o (ZT fe.2.1) (ZT fi.2.1) ho,r⟩
   ·by_cases hb:b=s.heap.objs.size
    ·subst hb
     rw[Jw] at q
     cases q
     exact⟨by show 2<=sizeLine;decide,[.int i s.toks,u],.cons ⟨_,rfl⟩ (.cons ru .nil),⟨_,t2,rfl,_,rfl⟩⟩
    ·rw[Jl hb] at q
     have n1:b≠e:=λ z=>by rw[z,fe.1] at q;cases q
     have n2:b≠it:=λ z=>by rw[z,fi.1] at q;cases q
     refine(I.hok b u q).stay (λ c v hc r=>k2 c v ?_ ?_ r) (λ c q=>by rw[Jl (neP c _ q)];exact q) λ c ys q=>by rw[Jl (neP c _ q)];exact q
     ·rcases hc with z|z
      ·rw[z];exact n1
      ·intro y;rw[y,fe.1] at z;cases z
     ·rcases hc with z|z
      ·rw[z];exact n2
      ·intro y;rw[y,fi.1] at z;cases z
  refine⟨.ref s.heap.objs.size,_,I1,rfl,⟨s.heap.objs.size,x,hn,rfl,rfl,λ ys hy=>by rw[I.list_inj hy hq];exact hx⟩,⟨⟨_,he2⟩,hl2⟩,λ b hb=>?_⟩
  simp only[ZH,ZaJ,or_false] at hb
  rcases hb with rfl|rfl
  ·rw[Jl (Z6 ltE)];exact fe.1
  ·rw[Jl (Z6 (Z0 hoi))];exact fi.1
 done:=by
  intro X hP hw hK hc i pj s σ H E I hf st hg
  subst hP hw hK
  obtain⟨⟨old,he⟩,hit⟩:=st
  obtain⟨xs,hq,hx⟩:=hg
  obtain⟨its,rv,p,hz⟩:=I.list hq
  obtain⟨f0,f1,f2,f3,f4,f5⟩:=hf it (by simp)
  have hl:=rv.length
  exact wpAny_pyNext_enum_end (I.ok.hd hc) he hit p.isList (by simp;omega) λ h' eb=>⟨rfl,I.turned (t':=s.toks) (λ b o hb e=>eb b o hb e) f0 f1 f3 f4 f5⟩
 self:=λ _ _ _ _ _ st h=>let ⟨_,he⟩:=st.1;wpAny_pyIter_enum he h
noncomputable def Qp (n:Nat):List IV->List IV
 | []=>[]
 | x::xs=>.tup [.int n,x]::Qp (n+1) xs
theorem Jf8:∀(xs:List IV)(n k:Nat),(Qp n xs)[k]?=(xs[k]?).map λ x=>.tup [.int ((n+k:Nat):Int),x]
 | [],_,_=>by simp[Qp]
 | x::xs,n,0=>by simp[Qp]
 | x::xs,n,k+1=>by
  simp only[Qp,ZY]
  rw[Jf8 xs (n+1) k]
  have:n+1+k=n+(k+1):=by omega
  rw[this]
theorem XQ:∀(xs:List IV)(n:Nat),(Qp n xs).length=xs.length
 | [],_=>rfl
 | _::xs,n=>by simp[Qp,XQ xs]
def QM:List IV->IH->Res ItI
 | [.ref i],h=>match h[i]? with
  | some (.lst xs)=>.ok ⟨Qp 0 xs,λ h'=>h'[i]?=Za (.lst xs)⟩ h
  | _=>.stuck
 | _,_=>.stuck
theorem Jzr {a:Zj}{i:Nat}{xs:List IV}{ι:List Zj}{H₀:Hp}(ha:ι[i]?=Za a):ItOk ce X.K ι H₀ (Ite X.K a) ⟨Qp 0 xs,λ h'=>h'[i]?=Za (.lst xs)⟩:=by
 refine⟨λ k v h H ι' hp R hck hx=>?_,λ k h H ι' hp R hck hx=>?_⟩
 ·obtain⟨vs,e1,r1⟩:=R.get hck (hp.at ha)
  have hx':(Qp 0 xs)[k]?=Za v:=hx
  rw[Jf8] at hx'
  obtain⟨x,hxk,rfl⟩:=Z5.mp hx'
  obtain⟨u,hu,qu⟩:=r1.get hxk
  refine⟨⟨vs,u,SqL.of e1,hu⟩,λ y H' hy=>?_⟩
  obtain⟨p,x',hp0,rfl,rfl,hy⟩:=hy
  have:=hy vs (SqL.of e1)
  rw[hu] at this
  cases this
  obtain⟨R',n'⟩:=R.grow (o:=.tup [.int (k:Int),u]) hp0
  refine⟨R',n',p,_,rfl,SqT.of Jw,⟨_,_,rfl,?_,_,_,rfl,RV.mono n' _ _ qu,rfl⟩⟩
  show V.int (k:Int)=V.int ((0+k:Nat):Int)
  simp
 ·obtain⟨vs,e1,r1⟩:=R.get hck (hp.at ha)
  exact⟨vs,SqL.of e1,by rw[r1.length,<-XQ xs 0];exact hx⟩
theorem Jze {es:List Expr}{kt:Nat}{pt:Pos}{a:Expr}{ma:A1}{p pos:Pos}(hg:Gl X "enumerate")(hm:X.mg "enumerate"=Zc)(ha:PAi ce X [a] ma)(hs:Z9 [a] X.env=[(Zh,ZaQ a X.env)]:=by rfl):PIi ce X (.Tuple es kt pt) (.Call (.Name "enumerate" p) [a] [] pos) (iRg QM ma):=by
 intro pj s σ H ι σi h Q E N K
 refine Call_ (Qf N.inv hg hm boot_enumerate (Zah ?_ hs rfl))
 refine ha pos pj s σ H ι σi h _ E N ?_
 unfold iRg at K
 cases e0:ma σi h with
 | exc n h'=>rw[e0] at K;exact K
 | stuck=>rw[e0] at K;exact K
 | ok vs h' =>
  rw[e0] at K
  intro us s1 H1 ι1 N1 n1 r1
  obtain⟨xs,rv,qs⟩:=r1
  match vs,K with
  | [.ref i],K =>
   obtain⟨w,e1,q⟩:=qs.one_of
   subst e1
   obtain⟨b,e3,hb⟩:=q
   subst e3
   obtain⟨u,rfl,ru⟩:=Qk rv
   cases ru
   cases hi:h'[i]? with
   | none=>simp only[Res.bind,QM,hi] at K
   | some ob =>
    cases ob with
    | lst ys =>
     simp only[Res.bind,QM,hi] at K
     obtain⟨ws,eH,rH⟩:=N1.at hi hb
     obtain⟨z,its,n,r,hl,eo⟩:=N1.inv.lstM eH
     refine call_enumerate_1 eo λ h2 he hit hsz kp=>?_
     refine wpAny_pyIter_enum he (K _ _ H1 ι1 ⟨N1.inv.kept (t':=s1.toks) kp,N1.rel,N1.st⟩ n1 ?_)
     refine⟨s1.heap.objs.size+1,[s1.heap.objs.size+1,s1.heap.objs.size],_,Ite X.K b,rfl,Jq2 b s1.heap.objs.size (s1.heap.objs.size+1) (Zbi (ZaV _)),⟨⟨_,he⟩,hit⟩,λ c hc=>?_,Jzr hb⟩
     simp only[ZH,ZaJ,or_false] at hc
     rcases hc with rfl|rfl
     ·exact N1.inv.fpOk (ZaC _) (N1.inv.hok.fresh (ZaC _))
     ·exact N1.inv.fpOk (Zr _) (N1.inv.hok.fresh (Zr _))
    | _=>simp only[Res.bind,QM,hi] at K
  | [],K=>exact Zf K
  | .non::_,K=>exact Zf K
  | .bl _::_,K=>exact Zf K
  | .str _::_,K=>exact Zf K
  | .tup _::_,K=>exact Zf K
  | .rol _::_,K=>exact Zf K
  | .int _::_,K=>exact Zf K
  | .ref _::_::_,K=>exact Zf K
end
noncomputable def VE:IV->IH->Res ItI
 | .str x,h=>Jst (.str x) h
 | v,h=>itOf v h
def J1 (e:E1):I1:=λ σ h=>(e σ h).bind VE
theorem Jsk {ce:CeT}{X:Cx}{tg l:Expr}{ml:E1}(hl:PEi ce X l ml):PIi ce X tg l (J1 ml):=by
 intro pj s σ H ι σi h Q E N K
 cases e0:ml σi h with
 | ok v h' =>
  cases v with
  | str x=>exact Jng (tg:=tg) hl pj s σ H ι σi h Q E N (by unfold iStr;unfold J1 at K;rw[e0] at K ⊢;exact K)
  | _=>exact Jpo (tg:=tg) hl pj s σ H ι σi h Q E N (by unfold iVal;unfold J1 at K;rw[e0] at K ⊢;exact K)
 | exc n h'=>exact Jpo (tg:=tg) hl pj s σ H ι σi h Q E N (by unfold iVal;unfold J1 at K;rw[e0] at K ⊢;exact K)
 | stuck=>exact Jpo (tg:=tg) hl pj s σ H ι σi h Q E N (by unfold iVal;unfold J1 at K;rw[e0] at K ⊢;exact K)
section
variable {ce:CeT}{X:Cx}
theorem x_sl:SlI ce X slI:=by
 intro pj s σ H ι σi h x v vl vu lo hi sl Q E N rx hs pl pu K
 obtain⟨xv,rx,qx⟩:=rx
 cases x with
 | ref i =>
  obtain⟨a,e1,ha⟩:=qx
  subst e1
  dsimp only[slI] at K
  cases hi':h[i]? with
  | none=>rw[hi'] at K;exact Zf K
  | some ob =>
   rw[hi'] at K
   cases ob with
   | lst xs =>
    obtain⟨vs,e1,r1⟩:=N.at hi' ha
    exact Jvg (Jqp (X:=X.wish E)) N.inv rx hs pl pu ⟨a,vs,rfl,SqL.of e1,λ p hp=>finA N K p hp ⟨_,Jw,RVs.new hp (r1.cut lo hi)⟩⟩
   | _=>exact Zf K
 | rol xs =>
  obtain⟨a,vs,e1,sa,ra⟩:=qx
  subst e1
  exact Jvg (Jqp (X:=X.wish E)) N.inv rx hs pl pu ⟨a,vs,rfl,sa.sq,λ p hp=>finA N K p hp ⟨_,Jw,RVs.new hp (ra.cut lo hi)⟩⟩
 | _=>exact Zf K
noncomputable def Qq:IV->IH->Res IV
 | .ref i,h=>match h[i]? with
  | some (.lst xs)=>.ok (.ref h.length) (h++[.lst xs])
  | _=>.stuck
 | .rol xs,h=>.ok (.ref h.length) (h++[.lst xs])
 | .tup xs,h=>.ok (.ref h.length) (h++[.lst xs])
 | _,_=>.stuck
theorem Jyv:Q6 ce X (.type "list") (on1 Qq):=Xa λ pj s σ H ι σi h x xv u Q E N ru qx K=>by
 cases x with
 | ref i =>
  obtain⟨a,e1,ha⟩:=qx
  subst e1
  dsimp only[Qq] at K
  cases hi:h[i]? with
  | none=>rw[hi] at K;exact Zf K
  | some ob =>
   rw[hi] at K
   cases ob with
   | lst xs =>
    obtain⟨vs,e1,r1⟩:=N.at hi ha
    exact QG (Jcw (X:=X.wish E)) N.inv (.cons ru .nil) ⟨a,vs,rfl,.inl (SqL.of e1),λ p hp=>finA N K p hp ⟨_,Jw,RVs.new hp r1⟩⟩
   | _=>exact Zf K
 | rol xs =>
  obtain⟨a,vs,e1,sa,ra⟩:=qx
  subst e1
  exact QG (Jcw (X:=X.wish E)) N.inv (.cons ru .nil) ⟨a,vs,rfl,.inl sa.sq,λ p hp=>finA N K p hp ⟨_,Jw,RVs.new hp ra⟩⟩
 | tup xs =>
  obtain⟨a,vs,e1,sa,ra⟩:=qx
  subst e1
  exact QG (Jcw (X:=X.wish E)) N.inv (.cons ru .nil) ⟨a,vs,rfl,.inr sa,λ p hp=>finA N K p hp ⟨_,Jw,RVs.new hp ra⟩⟩
 | _=>exact Zf K
noncomputable def VN:IV->IH->Res IV
 | .ref i,h=>match h[i]? with
  | some (.lst xs)=>.ok (.tup xs) h
  | _=>.stuck
 | .tup xs,h=>.ok (.tup xs) h
 | _,_=>.stuck
theorem Jvp:Q6 ce X (.type "tuple") (on1 VN):=Xa λ pj s σ H ι σi h x xv u Q E N ru qx K=>by
 cases x with
 | ref i =>
  obtain⟨a,e1,ha⟩:=qx
  subst e1
  dsimp only[VN] at K
  cases hi:h[i]? with
  | none=>rw[hi] at K;exact Zf K
  | some ob =>
   rw[hi] at K
   cases ob with
   | lst xs =>
    obtain⟨vs,e1,r1⟩:=N.at hi ha
    exact QG (Jea (X:=X.wish E)) N.inv (.cons ru .nil) ⟨a,vs,rfl,.inl ⟨SqL.of e1,λ p hp=>finT N K p hp r1⟩⟩
   | _=>exact Zf K
 | tup xs =>
  have qx':=qx
  obtain⟨a,vs,e1,sa,ra⟩:=qx
  subst e1
  exact QG (Jea (X:=X.wish E)) N.inv (.cons ru .nil) ⟨a,vs,rfl,.inr ⟨sa,fin0 N K qx'⟩⟩
 | _=>exact Zf K
def Vi:List IV->Option (List Bool)
 | []=>Za []
 | .bl b::r=>(Vi r).map (b:: ·)
 | _::_=>Zc
noncomputable def allI:IV->IH->Res IV
 | .ref i,h=>match h[i]? with
  | some (.lst xs)=>(match Vi xs with
   | some bs=>.ok (.bl (bs.all id)) h
   | none=>.stuck)
  | _=>.stuck
 | _,_=>.stuck
theorem Jhw {K:W.Frag}{ι:List Zj}{H:Hp}:∀{xs:List IV}{bs:List Bool}{vs:List V}{us:List Ze},Vi xs=Za bs->RVs K ι H xs vs->Vals vs us->us=bs.map Zc3
 | [],bs,vs,us,e,q,r=>by
  cases e
  have e1:vs=[]:=q
  subst e1
  cases r
  rfl
 | x::xs,bs,vs,us,e,q,r=>by
  obtain⟨v,vr,e1,q1,q2⟩:=q
  subst e1
  cases r with
  | cons r1 r2 =>
   cases x with
   | bl b =>
    obtain⟨b2,e2,rfl⟩:=Z5.mp (show(Vi xs).map (b:: ·)=Za bs from e)
    cases (show v=.bl b from q1)
    cases r1
    rw[Jhw e2 q2 r2]
    rfl
   | _=>cases e
theorem Job (bs:List Bool):((Z8 bs.length).all λ i=>bs.getD i Zd)=bs.all id:=by
 induction bs with
 | nil=>rfl
 | cons b r ih =>
  rw[ZB,List.range_succ_eq_map,Zaf,List.all_map,Zaf]
  have e:((Z8 r.length).all ((λ i=>(b::r).getD i Zd)∘Nat.succ))=(Z8 r.length).all λ i=>r.getD i Zd:=by
   congr 1
  rw[e,ih]
  rfl
theorem J1q (hh:X.A.handled=Zc):Q6 ce X (.builtin "all") (on1 allI):=Xa λ pj s σ H ι σi h x xv u Q E N ru qx K=>by
 cases x with
 | ref i =>
  obtain⟨a,e1,ha⟩:=qx
  subst e1
  cases ru
  dsimp only[allI] at K
  cases hi:h[i]? with
  | none=>rw[hi] at K;exact Zf K
  | some ob =>
   rw[hi] at K
   cases ob with
   | lst xs =>
    dsimp only at K
    cases hb:Vi xs with
    | none=>rw[hb] at K;exact Zf K
    | some bs =>
     rw[hb] at K
     obtain⟨vs,e1,r1⟩:=N.at hi ha
     obtain⟨its,rv,pl,hz⟩:=N.inv.list (SqL.of e1)
     have eu:=Jhw hb r1 rv
     subst eu
     refine call_all_walk (ZaZ pl.isList ?_)
     have hlt:a<s.heap.objs.size:=by obtain⟨o,_,ho,_⟩:=pl;exact Z0 ho
     have ne:a≠s.heap.objs.size:=Z6 hlt
     refine⟨s.heap.objs.size,_,_,_,_,_,λ i=>bs.getD i Zd,rfl,Zdy (prog:=X.prog) (w:=X.w) (A:=X.A.in1) hh s.heap.objs.size a ne (bs.map Zc3).toArray,⟨⟨_,Z1 _ rfl,rfl,rfl⟩,?_⟩,?_,λ h' tk kk=>?_⟩
     ·obtain⟨o,n,ho,hc,_,hd⟩:=pl
      exact⟨o,Zi _ ho,hc,n,hd⟩
     ·intro i v s' Q' E' hP hq
      simp only[Zel,Z7] at hP
      obtain⟨b,hb',rfl⟩:=Z5.mp hP
      refine Zbo ?_
      have:bs.getD i Zd=b:=by simp[List.getD,hb']
      rw[<- this]
      exact hq
     ·rw[show(bs.map Zc3).toArray.size=bs.length by simp,Job]
      have I1:Inv X pj σ H { s with heap:=s.heap.push { cls:=.type "list_iterator",data:=.fields #[.ref a,.int 0 0] } }:=N.inv.kept (t':=s.toks) λ b o e=>Zi _ e
      have f:=N.inv.fpOk (Zr _) (N.inv.hok.fresh (Zr _))
      exact fin0 N K rfl _ _ (I1.turned (t':=tk) (it:=s.heap.objs.size) (λ b o hb e=>kk b o (by simpa using hb) e) f.1 f.2.1 f.2.2.2.1 f.2.2.2.2.1 f.2.2.2.2.2) rfl
   | _=>exact Zf K
 | _=>exact Zf K
def MtI (ce:CeT)(X:Cx)(T id:String)(g:IV->List IV->IH->Res IV):Prop :=
 ∀(pj:PnT)(s:Zk)(σ:L2.St)(H:Hp)(ι:List Zj)(σi:ISt)(h:IH)(x:IV)(xs:List IV)(v:Ze)(us:List Ze)(Q:QvT)(E:QvT),Now ce X pj ι σi h σ H s->RU X.K ι H x v->RUs X.K ι H xs us ->
  Kont ce X RU pj ι σi σ H (g x xs h) Q E->Zt (Z3 X.prog X.w) X.A (call (.builtin id) (v::us)) Q E s
def tyOk (T:String):IV->IH->Bool
 | .str _,_=>T=="str"
 | .int _,_=>T=="int"
 | .ref i,h=>match h[i]? with
  | some (.lst _)=>T=="list"
  | some (.dct _)=>T=="dict"
  | _=>Zh
 | .rol _,_=>T=="list"
 | _,_=>Zh
def eBm (T:String)(g:IV->List IV->IH->Res IV)(o:E1)(a:A1):E1:=λ σ h=>(o σ h).bind λ x h1=>if tyOk T x h1=Zd then(a σ h1).bind λ xs h2=>g x xs h2 else .stuck
theorem Jvd {pj:PnT}{s:Zk}{σ:L2.St}{H:Hp}{ι:List Zj}{σi:ISt}{h:IH}{x:IV}{xv:V}{T:String}(N:Now ce X pj ι σi h σ H s)(q:RV X.K ι H x xv)(e:tyOk T x h=Zd):tyV X.K T xv H:=by
 cases x with
 | str y=>cases (show xv=.str y from q);exact beq_iff_eq.mp e
 | int y=>cases (show xv=.int y from q);exact beq_iff_eq.mp e
 | rol y =>
  obtain⟨a,vs,rfl,sa,_⟩:=q
  exact .inl ⟨beq_iff_eq.mp e,vs,sa.sq⟩
 | ref i =>
  obtain⟨a,rfl,ha⟩:=q
  cases hi:h[i]? with
  | none=>simp[tyOk,hi] at e
  | some ob =>
   cases ob with
   | lst xs =>
    simp only[tyOk,hi] at e
    obtain⟨vs,e1,_⟩:=N.at hi ha
    exact .inl ⟨beq_iff_eq.mp e,vs,SqL.of e1⟩
   | dct kvs =>
    simp only[tyOk,hi] at e
    obtain⟨vs,e1,_⟩:=N.at hi ha
    exact .inr (.inr (.inl ⟨beq_iff_eq.mp e,.inl ⟨vs,e1⟩⟩))
   | _=>simp[tyOk,hi] at e
 | _=>simp[tyOk] at e
variable {o a:Expr}{es:List Expr}{mo:E1}{ma:A1}{name:Str}{apos cpos:Pos}{T id:String}{g:IV->List IV->IH->Res IV}
theorem i_bm (pa:PlainAttrs T)(slot:Slot T name id)(hty:Ze7 (.builtin id)=pure (.type "method_descriptor"))(hm:MtI ce X T id g)(ho:PEi ce X o mo)(ha:PAi ce X (a::es) ma)
  (hbase:Zda o name X.env (ZaQ o X.env)=ZaQ o X.env:=by rfl)
  (hfew:((ZaX cpos (Z9 (a::es) X.env)).all (λ x=>!x.1)&&(ZdR cpos (ZcE [] X.env)).all (λ x=>x.1.isSome)
   && decide ((a::es).length+([]:List Zdo).length+(if ([]:List Zdo).isEmpty then 0 else 1)<30))=Zd:=by rfl)
  (hline:(apos.endLine==cpos.line)=Zd:=by rfl) (hs:Z9 (a::es) X.env=(Zh,ZaQ a X.env)::Z9 es X.env:=by rfl) (hplain:(ZaX cpos (Z9 es X.env)).any (·.1)=Zh:=by rfl) :
  PEi ce X (.Call (.Attribute o name apos) (a::es) [] cpos) (eBm T g mo ma):=by
 intro pj s σ H ι σi h Q E N K
 refine wpAny_Call_method_late hbase hfew hline rfl (ho.run N K λ x h1 v s1 H1 ι1 N1 n1 r1 K1=>?_)
 by_cases hty1:tyOk T x h1=Zd
 ·rw[if_pos hty1] at K1
  obtain⟨xv,rx,qx⟩:=r1
  obtain⟨h1',h2'⟩:=Jve N1.inv rx (Jvd N1 qx hty1)
  refine⟨T,id,pa,slot,hty,h1',h2',?_⟩
  have hA:=(ha cpos).run (Q1:=λ us s2=>Zt (Z3 X.prog X.w) X.A (call (.builtin id) (v::us)) Q E s2) N1 K1 λ xs h2 us s2 H2 ι2 N2 n2 r2 K2=>hm pj s2 σ H2 ι2 σi h2 x xs v us Q E N2 ⟨xv,rx,RV.mono n2 _ _ qx⟩ r2 K2
  rw[hs] at hA ⊢
  exact Zea (by show(Zh||(ZaX cpos (Z9 es X.env)).any (·.1))=Zh;rw[hplain]<;>rfl) (Calls.evalArgs_plain hA)
 ·rw[if_neg hty1] at K1
  exact Zf K1
theorem J12 (pa:PlainAttrs T)(slot:Slot T name id)(hty:Ze7 (.builtin id)=pure (.type "method_descriptor"))(hm:MtI ce X T id g)(ho:PEi ce X o mo)
  (hbase:Zda o name X.env (ZaQ o X.env)=ZaQ o X.env:=by rfl)(hline:(apos.endLine==cpos.line)=Zd:=by rfl):PEi ce X (.Call (.Attribute o name apos) [] [] cpos) (eBm T g mo Jd):=by
 intro pj s σ H ι σi h Q E N K
 refine wpAny_Call_method0_late hbase hline (ho.run N K λ x h1 v s1 H1 ι1 N1 n1 r1 K1=>?_)
 by_cases hty1:tyOk T x h1=Zd
 ·rw[if_pos hty1] at K1
  obtain⟨xv,rx,qx⟩:=r1
  obtain⟨h1',h2'⟩:=Jve N1.inv rx (Jvd N1 qx hty1)
  exact⟨T,id,pa,slot,hty,h1',h2',Zea rfl (PySem.evalArgs_none (hm pj s1 σ H1 ι1 σi h1 x [] v [] Q E N1 ⟨xv,rx,qx⟩ .nil K1))⟩
 ·rw[if_neg hty1] at K1
  exact Zf K1
theorem Jvf {pj:PnT}{s:Zk}{σ:L2.St}{H:Hp}{Q:QvT}{E:QvT}{r:V->List V->Hp->VK->Prop}{x:V}{xs:List V}{v:Ze}{us:List Ze}(p:MtM (X.wish E) id r)(I:Inv X pj σ H s)(rx:RelV x v)(rs:Vals xs us)
  (k:r x xs H λ z H'=>∀u s',Inv X pj σ H' s'->RelV z u->Q u s'):Zt (Z3 X.prog X.w) X.A (call (.builtin id) (v::us)) Q E s :=
 ZP (p pj s σ H x xs v us _ (I.wish E) rx rs k) (λ u s' ⟨_,_,I',r,q⟩=>q u s' I'.unwish r) λ _ _ z=>z
theorem finW {pj:PnT}{s:Zk}{σ:L2.St}{H:Hp}{ι:List Zj}{σi:ISt}{h:IH}{i:Nat}{b:Zj}{ys:List IV}{vs ws:List V}{v:IV}{w:V}{Q:QvT}{E:QvT}(N:Now ce X pj ι σi h σ H s)(K:Kont ce X RU pj ι σi σ H (.ok v (h.set i (.lst ys))) Q E)
  (hb:ι[i]?=Za b)(eH:H b=Za (.lst vs))(r:RVs X.K ι H ys ws)(q:RV X.K ι H v w):∀u s',Inv X pj σ (upd H b (.lst ws)) s'->RelV w u->Q u s':=λ u s' I ru=>by
 have n:Nxt ι H ι (upd H b (.lst ws)):=⟨⟨[],by simp⟩,Ext.upd_mut eH (by rw[eH];exact ZaK)⟩
 obtain⟨R,_⟩:=N.rel.write (o:=.lst ws) (io:=.lst ys) hb eH (by rw[eH];exact ZaK) ⟨_,Jw,RVs.mono n _ _ r⟩
 exact K u s' _ ι ⟨I,R,N.st.mono n⟩ n ⟨w,ru,RV.mono n _ _ q⟩
def V8:IV->List IV->IH->Res IV
 | .ref i,[y],h=>match h[i]? with
  | some (.lst xs)=>if xs.length<sizeLine then .ok .non (h.set i (.lst (xs++[y]))) else .stuck
  | _=>.stuck
 | _,_,_=>.stuck
theorem Jsx:MtI ce X "list" "list.append" V8:=by
 intro pj s σ H ι σi h x xs v us Q E N rx rs K
 obtain⟨xv,rx,qx⟩:=rx
 obtain⟨vs,rv,qs⟩:=rs
 cases x with
 | ref i =>
  match xs,K with
  | [y],K =>
   obtain⟨a,rfl,ha⟩:=qx
   obtain⟨w,rfl,qw⟩:=qs.one_of
   dsimp only[V8] at K
   cases hi:h[i]? with
   | none=>rw[hi] at K;exact Zf K
   | some ob =>
    rw[hi] at K
    cases ob with
    | lst zs =>
     dsimp only at K
     split at K
     ·rename_i hz
      obtain⟨ws,e1,r1⟩:=N.at hi ha
      exact Jvf (Jju (X:=X.wish E)) N.inv rx rv ⟨a,ws,w,rfl,rfl,e1,by rw[r1.length];exact hz,finW N K ha e1 (r1.append (RVs.one qw)) rfl⟩
     ·exact Zf K
    | _=>exact Zf K
  | [],K=>exact Zf K
  | _::_::_,K=>exact Zf K
 | _=>cases xs<;>exact Zf K
end
section
variable {ce:CeT}{X:Cx}
noncomputable def keyI:IV->Option Key
 | .int i=>Za (.inl i)
 | .str x=>Za (.inr x)
 | _=>Zc
theorem Jh7 {K:W.Frag}{ι:List Zj}{H:Hp}{x:IV}{v:V}{k:Key}(e:keyI x=Za k)(r:RV K ι H x v):v=kV k:=by
 cases x with
 | int i=>cases e;exact r
 | str y=>cases e;exact r
 | _=>cases e
def maxI:IV->IV->IH->Res IV
 | .int i,.int j,h=>.ok (.int (if j>i then j else i)) h
 | _,_,_=>.stuck
def minI:IV->IV->IH->Res IV
 | .int i,.int j,h=>.ok (.int (if j<i then j else i)) h
 | _,_,_=>.stuck
theorem J1r (hc:X.calm=Zd):Q6 ce X (.builtin "max") (on2 maxI):=by
 intro pj s σ H ι σi h xs us Q E N r K
 obtain⟨vs,rv,q⟩:=r
 match xs,K with
 | [x,y],K =>
  obtain⟨v,w,rfl,qx,qy⟩:=q.two_of
  cases x with
  | int i =>
   cases y with
   | int j =>
    cases (show v=.int i from qx)
    cases (show w=.int j from qy)
    exact QG (Jos (X:=X.wish E) hc) N.inv rv ⟨i,j,rfl,fin0 N K rfl⟩
   | _=>exact Zf K
  | _=>cases y<;>exact Zf K
 | [],K=>exact Zf K
 | [_],K=>exact Zf K
 | _::_::_::_,K=>exact Zf K
theorem J1s (hc:X.calm=Zd):Q6 ce X (.builtin "min") (on2 minI):=by
 intro pj s σ H ι σi h xs us Q E N r K
 obtain⟨vs,rv,q⟩:=r
 match xs,K with
 | [x,y],K =>
  obtain⟨v,w,rfl,qx,qy⟩:=q.two_of
  cases x with
  | int i =>
   cases y with
   | int j =>
    cases (show v=.int i from qx)
    cases (show w=.int j from qy)
    exact QG (Jot (X:=X.wish E) hc) N.inv rv ⟨i,j,rfl,fin0 N K rfl⟩
   | _=>exact Zf K
  | _=>cases y<;>exact Zf K
 | [],K=>exact Zf K
 | [_],K=>exact Zf K
 | _::_::_::_,K=>exact Zf K
noncomputable def Vn:List IV->Option (List Str)
 | []=>Za []
 | .str x::r=>(Vn r).map (x:: ·)
 | _=>Zc
theorem Jqx {K:W.Frag}{ι:List Zj}{H:Hp}:∀{xs:List IV}{zs:List Str}{vs:List V}{us:List Ze},Vn xs=Za zs->RVs K ι H xs vs->Vals vs us->∃l:List (Str×Tok),us=ZeO l/\l.map (·.1)=zs
 | [],zs,vs,us,e,q,r=>by
  cases e
  have e1:vs=[]:=q
  subst e1
  cases r
  exact⟨[],rfl,rfl⟩
 | x::xs,zs,vs,us,e,q,r=>by
  obtain⟨v,vr,e1,q1,q2⟩:=q
  subst e1
  cases r with
  | cons r1 r2 =>
   cases x with
   | str y =>
    obtain⟨z2,e2,rfl⟩:=Z5.mp (show(Vn xs).map (y:: ·)=Za zs from e)
    cases (show v=.str y from q1)
    obtain⟨t,rfl⟩:=r1
    obtain⟨l,rfl,hl⟩:=Jqx e2 q2 r2
    exact⟨(y,t)::l,rfl,by rw[Zu,hl]⟩
   | _=>cases e
end
noncomputable def Qb:List IV->Option (List Int)
 | []=>Za []
 | .int i::r=>(Qb r).map (i:: ·)
 | _=>Zc
theorem XR {K:W.Frag}{ι:List Zj}{H:Hp}:∀{xs:List IV}{ns:List Int}{vs:List V}{us:List Ze},Qb xs=Za ns->RVs K ι H xs vs->Vals vs us->Zca us ns
 | [],ns,vs,us,e,q,r=>by
  cases e
  have e1:vs=[]:=q
  subst e1
  cases r
  exact .nil
 | x::xs,ns,vs,us,e,q,r=>by
  obtain⟨v,vr,e1,q1,q2⟩:=q
  subst e1
  cases r with
  | cons r1 r2 =>
   cases x with
   | int i =>
    obtain⟨n2,e2,rfl⟩:=Z5.mp (show(Qb xs).map (i:: ·)=Za ns from e)
    cases (show v=.int i from q1)
    obtain⟨t,rfl⟩:=r1
    exact .cons i t (XR e2 q2 r2)
   | _=>cases e
theorem Jb0:∀{us:List Ze}{ns:List Int},Zca us ns->us.length=ns.length
 | _,_,.nil=>rfl
 | _,_,.cons _ _ r=>by simp[Jb0 r]
section
variable {ce:CeT}{X:Cx}
noncomputable def sumI:IV->IH->Res IV
 | .ref i,h=>match h[i]? with
  | some (.lst xs)=>(match Qb xs with
   | some ns=>.ok (.int ns.sum) h
   | none=>.stuck)
  | _=>.stuck
 | _,_=>.stuck
theorem J1t (hh:X.A.handled=Zc):Q6 ce X (.builtin "sum") (on1 sumI):=Xa λ pj s σ H ι σi h x xv u Q E N ru qx K=>by
 cases x with
 | ref i =>
  obtain⟨a,e1,ha⟩:=qx
  subst e1
  cases ru
  dsimp only[sumI] at K
  cases hi:h[i]? with
  | none=>rw[hi] at K;exact Zf K
  | some ob =>
   rw[hi] at K
   cases ob with
   | lst xs =>
    dsimp only at K
    cases hb:Qb xs with
    | none=>rw[hb] at K;exact Zf K
    | some ns =>
     rw[hb] at K
     obtain⟨vs,e1,r1⟩:=N.at hi ha
     obtain⟨its,rv,pl,hz⟩:=N.inv.list (SqL.of e1)
     have are:=XR hb r1 rv
     obtain⟨ys,hy⟩:=are.allInts.items
     have pl':s.heap.IsList a (intItems ys):=hy▸pl.isList
     refine sum_intListG hh pl' λ h2 tk t2 kk=>?_
     have en:ns=ys.toList.map (·.1):=by
      have q1:=are.numsOf
      have q2:=congrArg (λ z:Array Ze=>numsOf z.toList) hy
      simp only at q2
      rw[<- q1]
      exact q2.trans (nums_intItems ys)
     have es:preSum (numAt ys) ys.size=ns.sum:=by
      rw[preSum_eq,en,Zaq (by simp)]
     rw[es]
     exact fin0 N K rfl _ _ (N.inv.kept (t':=tk) kk) ⟨_,rfl⟩
   | _=>exact Zf K
 | _=>exact Zf K
end
def JZ (f:Nat->Int):Nat->Int
 | 0=>0
 | 1=>f 0
 | j+2=>if f (j+1)>JZ f (j+1) then f (j+1) else JZ f (j+1)
theorem Jhl (f:Nat->Int){j:Nat}(hj:0<j):JZ f (j+1)=if f j>JZ f j then f j else JZ f j:=by
 cases j with
 | zero=>omega
 | succ j=>rfl
section
variable {pr:ZA}{wd:ZM}{B:ZG}{R:ZdA->Zk->Prop}{it:Zj}{fps wrs:List Zj}{n:Nat}{P:Nat->Ze->Prop}{St:Nat->ZZ->Prop}
abbrev J0j (v:Ze)(c:Nat):Obj:={ cls:=.type "list",dict:=Zc,data:=.seq #[v,v] c,slots:=#[] }
theorem Vy:(toString "max"++toString ".loop":String)="max.loop":=by decide
theorem Jw0 {kw:List (Str×Ze)}(W:Walks pr wd B.in1 it fps wrs n P St)(f:Nat->Int)(hf:∀i v,P i v->∃t,v=.int (f i) t)(C:Zj)(hC:C∉fps) :
  ∀(r j:Nat)(z:Zk)(v:Ze)(u:Tok)(c:Nat),n-j=r->0<j->j<=n->St j z.heap->v=.int (JZ f j) u->z.heap.get? C=Za (J0j v c) ->
   (∀u h2 tk,(∀a o,a∉wrs->a≠C->z.heap.get? a=Za o->h2.get? a=Za o)->R (.ok (.ret (.int (JZ f n) u))) { z with heap:=h2,toks:=tk }) ->
   ZbZ (Z3 pr wd) B (.builtin "max.loop" ⟨[.ref it,.none,.ref C],kw⟩) R z:=by
 have hw:C∉wrs:=λ q=>hC (W.sub _ q)
 intro r
 induction r with
 | zero =>
  intro j z v u c hr h0 hj st ev gC fin
  obtain rfl:j=n:=by omega
  subst ev
  refine ZaH Zbb ?_
  rw[ZaE ZL _]
  show Zt _ B.in1 (ZcZ (.ref C)>>=_) _ _ z
  refine Zg (ZbP gC rfl ?_)
  show Zt _ B.in1 (tryCatch (Zcs (.ref it)) _>>=_) _ _ z
  refine Zg (ZaF (W.done z _ _ st λ h2 tk keep=>?_))
  have gC2:=keep C _ hw gC
  show Zt _ B.in1 (ZeP C (λ _=>#[])>>=_) _ _ _
  refine Zg ?_
  refine ZbV gC2 rfl (Zg (ZbG (Zv ?_)))
  exact fin u _ tk λ a o ha hb e=>(Zy _ _ (ZT hb)).trans (keep a o ha e)
 | succ r ih =>
  intro j z v u c hr h0 hj st ev gC fin
  have lt:j<n:=by omega
  subst ev
  refine ZaH Zbb ?_
  rw[ZaE ZL _]
  show Zt _ B.in1 (ZcZ (.ref C)>>=_) _ _ z
  refine Zg (ZbP gC rfl ?_)
  show Zt _ B.in1 (tryCatch (Zcs (.ref it)) _>>=_) _ _ z
  refine Zg (ZaF (W.item j z _ _ lt st λ y h2 tk hP st2 keep=>?_))
  obtain⟨t,rfl⟩:=hf j y hP
  have gC2:=keep C _ hw gC
  have cmp:=CmpOf.ints_gt (prog:=pr) (w:=wd) (A:=B.in1) (P:=λ i v=>∃t,v=.int (if i=0 then f j else JZ f j) t) (λ i=>if i=0 then f j else JZ f j) (λ _ _ q=>q)
  show Zt _ B.in1 (tryCatch (Zdb [Zdq (f j) t,Zdq (f j) t] (richCompare .Gt (.int (f j) t) (.int (JZ f j) u)>>=_)) _>>=_) _ _ _
  refine Zg (ZaF (Zam (Zg (cmp 0 1 _ _ _ _ _ ⟨t,by simp⟩ ⟨u,by simp⟩ ?_))))
  refine Zg (Zam (Zbo ?_))
  refine Zg (ZbG (Zv ?_))
  have step:=Jhl f h0
  by_cases hb:f j>JZ f j
  ·rw[if_pos hb] at step
   simp only[if_true,show ¬(1:Nat)=0 by decide,if_false,decide_eq_true hb]
   refine Zg ?_
   refine ZbV gC2 rfl (Zg (ZbG ?_))
   rw[Vy]
   refine Zv ⟨Zb1 ZL _,ih (j+1) _ (.int (f j) t) t _ (by omega) (by omega) lt (W.frame _ _ _ st2 λ a ha o e=>?_) (by rw[step]) (ZaA _ gC2 rfl) λ u2 h3 tk3 k3=>?_⟩
   ·exact(Zy _ _ (λ q:C=a=>hC (by rw[q];exact ha))).trans e
   ·exact fin u2 h3 tk3 λ a o ha hc e=>k3 a o ha hc ((Zy _ _ (ZT hc)).trans (keep a o ha e))
  ·rw[if_neg hb] at step
   simp only[if_true,show ¬(1:Nat)=0 by decide,if_false,decide_eq_false hb,Zac]
   refine Zg (ZbG ?_)
   rw[Vy]
   refine Zv ⟨Zb1 ZL _,ih (j+1) _ (.int (JZ f j) u) u c (by omega) (by omega) lt st2 (by rw[step]) gC2 λ u2 h3 tk3 k3=>?_⟩
   exact fin u2 h3 tk3 λ a o ha hc e=>k3 a o ha hc (keep a o ha e)
end
theorem Joe (a v:Ze):argsOk "max" ⟨[a],[(Zar "default",v)]⟩:=by unfold argsOk;kernel_rfl
section
variable {pr:ZA}{wd:ZM}{B:ZG}{E:QvT}{z:Zk}{l:Zj}{us:List Ze}{ns:List Int}{d:Option Ze}{Q:QvT}{kw:List (Str×Ze)}
def J1m (ns:List Int)(d:Option Ze)(v:Ze):Prop:=(ns=[]/\d=Za v)∨(ns≠[]/\∃u,v=.int (JZ (λ i=>ns.getD i 0) ns.length) u)
theorem Jwz (hk:Zbw "max" ["key","default"] 0 ⟨[],kw⟩=pure [Zc,d])(ha:argsOk "max" ⟨[.ref l],kw⟩)(hn:ns=[]->∃v,d=Za v)(hh:B.handled=Zc)(hl:z.heap.IsList l us.toArray)(hi:Zca us ns)
  (hQ:∀v h2 tk,J1m ns d v->(∀b o,z.heap.get? b=Za o->h2.get? b=Za o)->Q v { z with heap:=h2,toks:=tk }) :
  Zt (Z3 pr wd) B (call (.builtin "max") [.ref l] kw) Q E z:=by
 obtain⟨ol,hol,_⟩:=id hl
 have lt:l<z.heap.objs.size:=Z0 hol
 have ll:=Jb0 hi
 refine kmk_tree PySem.F.kind_max PySem.F.plain_max PySem.F.entry_max ha ?_
 show Zt _ B.in1 (Zbw "max" ["key","default"] 0 ⟨[],kw⟩>>=_) _ _ z
 refine Zg (wpAny_of_eq hk ?_)
 refine Zg (Zv ?_)
 refine Zg (ZaZ hl ?_)
 refine Zg (ZdF ?_ (Zaa _))
 rw[Vy]
 have ne:l≠z.heap.objs.size:=Z6 lt
 have W:=Zdy (prog:=pr) (w:=wd) (A:=B.in1) hh z.heap.objs.size l ne us.toArray
 have sz:us.toArray.size=us.length:=Z2 ..
 have hS:(z.heap.push { cls:=.type "list_iterator",data:=.fields #[.ref l,.int 0 0] }).objs.size=z.heap.objs.size+1:=Zdz ..
 have hC:(z.heap.push { cls:=.type "list_iterator",data:=.fields #[.ref l,.int 0 0] }).objs.size∉[z.heap.objs.size,l]:=by
  rw[hS]
  simp only[ZH,ZaJ,or_false,not_or]
  exact⟨Zbi (ZaV _),Zbi (ZcR lt)⟩
 have hw:(z.heap.push { cls:=.type "list_iterator",data:=.fields #[.ref l,.int 0 0] }).objs.size∉[z.heap.objs.size]:=by
  rw[hS]
  simp only[ZH,ZaJ,or_false]
  exact Zbi (ZaV _)
 have old:∀b o,z.heap.get? b=Za o->((z.heap.push { cls:=.type "list_iterator",data:=.fields #[.ref l,.int 0 0] }).push (Zas "list" #[] 0)).get? b=Za o:=λ b o e=>Zi _ (Zi _ e)
 have gI:((z.heap.push { cls:=.type "list_iterator",data:=.fields #[.ref l,.int 0 0] }).push (Zas "list" #[] 0)).get? z.heap.objs.size=Za { cls:=.type "list_iterator",data:=.fields #[.ref l,.int 0 0] }:=Zi _ (Z1 _ rfl)
 have gC:((z.heap.push { cls:=.type "list_iterator",data:=.fields #[.ref l,.int 0 0] }).push (Zas "list" #[] 0)).get? (z.heap.push { cls:=.type "list_iterator",data:=.fields #[.ref l,.int 0 0] }).objs.size=Za (Zas "list" #[] 0):=Z1 _ rfl
 have notin:∀b o,z.heap.get? b=Za o->b∉[z.heap.objs.size]:=λ b o e q=>Z6 (Z0 e) (ZE.mp q)
 have notC:∀b o,z.heap.get? b=Za o->b≠(z.heap.push { cls:=.type "list_iterator",data:=.fields #[.ref l,.int 0 0] }).objs.size:=λ b o e=>by rw[hS];exact Z6 (ZcR (Z0 e))
 refine Zv ⟨Zb1 ZL _,ZaH Zbb ?_⟩
 rw[ZaE ZL _]
 show Zt _ B.in1 (ZcZ (.ref _)>>=_) _ _ _
 refine Zg (ZbP gC rfl ?_)
 show Zt _ B.in1 (tryCatch (Zcs (.ref z.heap.objs.size)) _>>=_) _ _ _
 by_cases h0:us.length=0
 ·refine Zg (ZaF (W.done _ _ _ (by rw[sz,h0];exact⟨⟨_,gI,rfl,rfl⟩,(hl.push _).push _⟩) λ h2 tk keep=>?_))
  obtain⟨v,rfl⟩:=hn (ZaN (by omega))
  show Zt _ B.in1 (rule _>>=_) _ _ _
  refine Zg (Zeb (Zv ?_))
  refine hQ v h2 tk (.inl ⟨ZaN (by omega),rfl⟩) λ b o e=>keep b o (notin b o e) (old b o e)
 ·refine Zg (ZaF (W.item 0 _ _ _ (by rw[sz];omega) ⟨⟨_,gI,rfl,rfl⟩,(hl.push _).push _⟩ λ y h2 tk hP st2 keep=>?_))
  have gC2:=keep _ _ hw gC
  show Zt _ B.in1 (ZeP (z.heap.push { cls:=.type "list_iterator",data:=.fields #[.ref l,.int 0 0] }).objs.size (λ _=>#[y,y])>>=_) _ _ _
  refine Zg ?_
  refine ZbV gC2 rfl ?_
  rw[Vy]
  have hf:∀(i:Nat)(v:Ze),us.toArray[i]?=Za v->∃t,v=.int ((λ i=>ns.getD i 0) i) t:=λ i v q=>IntsAre.int_at hi i v (by simpa using q)
  obtain⟨t,rfl⟩:=hf 0 y hP
  refine Zv ⟨Zb1 ZL _,Jw0 W (λ i=>ns.getD i 0) hf _ hC _ 1 _ _ t _ rfl (by decide) (by rw[sz];omega) (W.frame _ _ _ st2 λ a ha o e=>?_) rfl (ZaA _ gC2 rfl) λ u h3 tk3 k3=>?_⟩
  ·exact(Zy _ _ (λ q=>hC (by rw[q];exact ha))).trans e
  ·rw[sz,ll]
   refine hQ _ h3 tk3 (.inr ⟨λ q=>h0 (by rw[ll,q];rfl),u,rfl⟩) λ b o e=>k3 b o (notin b o e) (notC b o e) ((Zy _ _ (ZT (notC b o e))).trans (keep b o (notin b o e) (old b o e)))
end
section
variable {ce:CeT}{X:Cx}
def maxD (ns:List Int)(d:IV):IV:=if ns=[] then d else .int (JZ (λ i=>ns.getD i 0) ns.length)
def XN (aa:A1)(md:E1):E1:=λ σ h=>(aa σ h).bind λ xs h1=>(md σ h1).bind λ d h2=>match xs with
 | [.ref i]=>(match h2[i]? with
  | some (.lst ys)=>(match Qb ys with
   | some ns=>.ok (maxD ns d) h2
   | none=>.stuck)
  | _=>.stuck)
 | _=>.stuck
theorem Jzk {a de:Expr}{aa:A1}{md:E1}{p pos kp:Pos}(hh:X.A.handled=Zc)(hg:Gl X "max")(hm:X.mg "max"=Zc)(ha:PAi ce X [a] aa)(hd:PEi ce X de md)(hs:Z9 [a] X.env=[(Zh,ZaQ a X.env)]) :
  PEi ce X (.Call (.Name "max" p) [a] [⟨Za "default",de,kp⟩] pos) (XN aa md):=λ pj s σ H ι σi h Q E N K=>by
 refine ZQ (Qf N.inv hg hm rfl ?_)
 refine callWith_kw ?_ (by rw[hs];rfl) (by rw[hs];rfl) rfl rfl
 refine(ha pos).run N K λ xs h1 us s1 H1 ι1 N1 n1 r1 K1=>?_
 refine Zb9 (Zg (PX.run hd N1 K1 λ d h2 du s2 H2 ι2 N2 n2 r2 K2=>Zg (Zbz (Zv (Zcv ?_)))))
 obtain⟨vs,rv,qs⟩:=r1.mono n2
 match xs,K2 with
 | [.ref i],K2 =>
  obtain⟨w,rfl,ad,rfl,hav⟩:=qs.one_of
  obtain⟨u,rfl,ru⟩:=Qk rv
  cases ru
  dsimp only at K2
  cases hi:h2[i]? with
  | none=>rw[hi] at K2;exact Zf K2
  | some ob =>
   rw[hi] at K2
   cases ob with
   | lst ys =>
    dsimp only at K2
    cases hb:Qb ys with
    | none=>rw[hb] at K2;exact Zf K2
    | some ns =>
     rw[hb] at K2
     dsimp only at K2
     obtain⟨ws,e1,r3⟩:=N2.at hi hav
     obtain⟨its,rv2,pl,_⟩:=N2.inv.list (SqL.of e1)
     refine Jwz (d:=Za du) rfl (Joe _ _) (λ _=>⟨_,rfl⟩) hh pl.isList (XR hb r3 rv2) λ v h3 tk mi kk=>?_
     have N3:Now ce X pj ι2 σi h2 σ H2 { s2 with heap:=h3,toks:=tk }:=⟨N2.inv.kept (t':=tk) kk,N2.rel,N2.st⟩
     rcases mi with⟨e,ev⟩|⟨e,t,rfl⟩
     ·cases ev
      have em:maxD ns d=d:=if_pos e
      rw[em] at K2
      exact K2 _ _ _ _ N3 .refl r2
     ·have em:maxD ns d=.int (JZ (λ i=>ns.getD i 0) ns.length):=if_neg e
      rw[em] at K2
      exact K2 _ _ _ _ N3 .refl ⟨.int _,⟨t,rfl⟩,rfl⟩
   | _=>exact Zf K2
 | [],K2=>exact Zf K2
 | [.non],K2=>exact Zf K2
 | [.bl _],K2=>exact Zf K2
 | [.int _],K2=>exact Zf K2
 | [.str _],K2=>exact Zf K2
 | [.tup _],K2=>exact Zf K2
 | [.rol _],K2=>exact Zf K2
 | x::_::_,K2=>cases x<;>exact Zf K2
end
def metB (f:Nat->Str)(i:Nat)(k:Str):Bool:=(Z8 i).any λ j=>decide (k=f j)
def cntD (f:Nat->Str):Nat->Nat
 | 0=>0
 | i+1=>if metB f i (f i) then cntD f i else cntD f i+1
theorem Jp7 (f:Nat->Str)(i:Nat)(k:Str):metB f (i+1) k=(metB f i k||decide (k=f i)):=by simp[metB,List.range_succ]
theorem Jkn (f:Nat->Str):∀i,cntD f i<=i
 | 0=>Zr _
 | i+1=>by
  have:=Jkn f i
  unfold cntD
  split<;>omega
section
variable {pr:ZA}{wd:ZM}{B:ZG}{R:ZdA->Zk->Prop}{it:Zj}{fps wrs:List Zj}{G:Array ZeA->Array ZeA->Prop}{n:Nat}{P:Nat->Ze->Prop}{St:Nat->Zk->Prop}
abbrev Vd (pr:ZA)(wd:ZM)(hp:ZZ)(a:Zj)(f:Nat->Str)(i:Nat):Prop:=hp.SetOf (Zdc pr wd) a (λ k=>metB f i k) (cntD f i)
theorem Vd.moved {hp h2:ZZ}{a:Zj}{f:Nat->Str}{i:Nat}(q:Vd pr wd hp a f i)(m:∀o,hp.get? a=Za o->h2.get? a=Za o):Vd pr wd h2 a f i:=by
 obtain⟨o,es,ep,t,ho,rest⟩:=q
 exact⟨o,es,ep,t,m o ho,rest⟩
theorem Jtm (W:WalksS pr wd B.in1 it fps wrs G n P St)(C:Zj)(hC:C∉fps)(f:Nat->Str)(hf:∀i v,P i v->∃t,v=.str (f i) t)(room:n+1<Zcm) :
  ∀(r i:Nat)(z:Zk),n-i=r->i<=n->St i z->Vd pr wd z.heap C f i->(∀z2,Moved (C::wrs) G z z2->Vd pr wd z2.heap C f n->R (.ok (.ret .none)) z2) ->
   ZbZ (Z3 pr wd) B (.builtin "set.update.loop" ⟨[.ref C,.ref it],[]⟩) R z:=by
 have nw:C∉wrs:=λ q=>hC (W.sub _ q)
 have more:∀b∈wrs,b∈C::wrs:=λ b q=>Zn _ q
 intro r
 induction r with
 | zero =>
  intro i z hr hi st hS fin
  obtain rfl:i=n:=by omega
  refine ZaH Zct ?_
  rw[ZaE Zbt _]
  show Zt _ B.in1 (Zcs (.ref it)>>=_) _ _ z
  refine Zg (W.done z _ _ st λ z2 mv=>?_)
  show Zt _ B.in1 (ret ZK) _ _ z2
  exact Zv (fin z2 (mv.mono more) (hS.moved λ o e=>mv.heap C _ nw e))
 | succ r ih =>
  intro i z hr hi st hS fin
  have lt:i<n:=by omega
  refine ZaH Zct ?_
  rw[ZaE Zbt _]
  show Zt _ B.in1 (Zcs (.ref it)>>=_) _ _ z
  refine Zg (W.item i z _ _ lt st λ v z2 hP st2 mv=>?_)
  obtain⟨t,rfl⟩:=hf i v hP
  have hS2:Vd pr wd z2.heap C f i:=hS.moved λ o e=>mv.heap C _ nw e
  have ki:(Zdc pr wd).is (f i) (.str (f i) t)=Zd:=strKind_is _ _ _ _
  show Zt _ B.in1 (Zdb [Zev (f i) t] (setAdd C (.str (f i) t))>>=_) _ _ z2
  refine Zg (Zam ?_)
  unfold setAdd
  refine Zam ?_
  refine Zg ((Zdc pr wd).pyHash (k:=f i) ki ?_)
  have rm:cntD f i+1<Zcm:=by have:=Jkn f i;omega
  refine wpAny_setAddHashed_of (knd:=Zdc pr wd) (s:={ z2 with toks:=z2.toks+1 }) ki rfl hS2 rm λ h3 sb hS3=>?_
  have hS4:Vd pr wd h3 C f (i+1):=SetOf_congr hS3 (λ k=>(Jp7 f i k).symm) (by show _=cntD f (i+1);rfl)
  refine Zv ⟨Zb1 Zbt _,ih (i+1) _ (by omega) lt (W.frame _ z2 _ _ st2 (ZaC _) λ b q o e=>?_) hS4 λ z5 m5 hS5=>?_⟩
  ·rw[sb.2 b (λ e2:b=C=>hC (by rw[<- e2];exact q))];exact e
  ·refine fin z5 (Moved.trans W.gtrans ((mv.mono more).then_heap (ZaC _) λ b o q e=>?_) m5) hS5
   rw[sb.2 b (λ e2:b=C=>q (by rw[e2];exact Zs))];exact e
end
section
variable {pr:ZA}{wd:ZM}{B:ZG}{E:QvT}{z:Zk}{l:Zj}{us:List Ze}{zs:List Str}{Q:QvT}
abbrev QB (led:Bool):Obj:={ cls:=.type "set",dict:=Zc,data:=.set #[] 0 (.fresh 0 0 led) }
abbrev Q0 (zs:List Str):Nat->Str:=λ i=>zs.getD i Str.empty
set_option maxRecDepth 100000 in
theorem Jtl {l2:List (Str×Tok)}(hh:B.handled=Zc)(hl:z.heap.IsList l us.toArray)(eu:us=ZeO l2)(ez:l2.map (·.1)=zs)(room:zs.length+1<Zcm)
  (fin:∀(h2:ZZ)(tk:Nat),Vd pr wd h2 z.heap.objs.size (Q0 zs) zs.length->(∀b o,z.heap.get? b=Za o->h2.get? b=Za o)->Q (.ref z.heap.objs.size) { z with heap:=h2,toks:=tk }) :
  Zt (Z3 pr wd) B (call (.type "set") [.ref l]) Q E z:=by
 have len:us.toArray.size=zs.length:=by rw[eu,<-ez];simp[ZeO]
 have vals:∀(i:Nat)(v:Ze),us.toArray[i]?=Za v->∃t,v=.str (Q0 zs i) t:=λ i v q=>by
  rw[eu] at q
  simp only[ZeO,Zel,Z7] at q
  obtain⟨p,hp,rfl⟩:=Z5.mp q
  refine⟨p.2,?_⟩
  rw[<- ez]
  simp[Q0,Zw,Z7,hp]
 obtain⟨c,tl,hmro⟩:=PySem.F.called_set.mro
 have hmade:=PySem.F.called_set.made
 have hsub:=PySem.F.called_set.sub
 refine Zc6 (codeAny_of_tree ?_)
 show Zt _ _ (callAny (.type "set") _) _ _ _
 refine Zv ⟨Zc7 _ (by decide +kernel),ZaH PySem.F.entry_type_call ?_⟩
 rw[Around.under_plain (weight_type_call_type "set" [.ref l] []) rfl]
 have no1:=PySem.F.called_set.notType
 have no2:=PySem.F.called_set.canCreate
 have ok1:=PySem.F.typeCall_set_1 (.ref l)
 repeat (any_goals (first|assumption|wp_step))
 refine ZbS (code_set_new_1 (.ref l) (E:=E) (Q₁:=λ obj z1=>∃led:Bool,obj=.ref z.heap.objs.size/\z1={ z with heap:=z.heap.push (QB led) }) λ led=>⟨led,rfl,rfl⟩) λ res z1 hr=>?_
 cases res with
 | error e=>exact hr
 | ok fl =>
  cases fl with
  | ret obj =>
   obtain⟨led,rfl,rfl⟩:=hr
   have gS:(z.heap.push (QB led)).get? z.heap.objs.size=Za (QB led):=Z1 _ rfl
   have tS:Shared.TypeIs { z with heap:=z.heap.push (QB led) } (.ref z.heap.objs.size) "set":=⟨_,gS,rfl⟩
   have in1:=PySem.F.called_set.init.lookup
   have in2:=PySem.F.called_set.init.bind (.ref z.heap.objs.size)
   repeat (any_goals (first|assumption|wp_step))
   refine ZbS (ZbF (R:=wants (λ res z2=>res=.none/\∃h2 tk,z2={ z with heap:=h2,toks:=tk }/\Vd pr wd h2 z.heap.objs.size (Q0 zs) zs.length/\(∀b o,z.heap.get? b=Za o->h2.get? b=Za o)) E)
    PySem.F.called_set.init.plain PySem.F.entry_set_init (check_set_init_1 tS ?_)) λ res2 z2 hr2=>?_
   ·obtain⟨ol,hol,hcl,nl,hdl⟩:=hl
    obtain⟨ocls,odict,odata,oslots⟩:=ol
    simp only at hcl hdl
    subst hcl;subst hdl
    have gl:(z.heap.push (QB led)).get? l=Za { cls:=.type "list",dict:=odict,data:=.seq us.toArray nl,slots:=oslots }:=Zi _ hol
    have sb1:=PySem.F.sub_list_set
    have sb2:=PySem.F.sub_list_frozenset
    have dne:(Zce "list"==Zce "dict")=Zh:=by decide
    have hl1:(z.heap.push (QB led)).IsList l us.toArray:=⟨_,gl,rfl,nl,rfl⟩
    unfold ZcO.«set.__init__» noKeywords Builtin.Frozenset.updateFrom
    generalize hPI:Ze4=PI
    wp_walk
    subst hPI
    refine ZaZ hl1 ?_
    refine Zg (wpAny_runValue ?_)
    have lS:l<z.heap.objs.size:=Z0 hol
    have h3:B.in1.in1.in1.handled=Zc:=by simp[hh]
    have neI:l≠(z.heap.push (QB led)).objs.size:=by rw[ZcI];exact Z6 (ZcR lS)
    have nC:z.heap.objs.size∉[(z.heap.push (QB led)).objs.size,l]:=by
     rw[ZcI]
     simp only[ZH,ZaJ,or_false,not_or]
     exact⟨Z6 (ZaV _),Zbi lS⟩
    refine Jtm ((Zdy h3 _ l neI us.toArray).toS) z.heap.objs.size nC (Q0 zs) vals (by rw[len];exact room) (us.toArray.size-0) 0 _ (by omega) (Zaa _) ⟨⟨_,Z1 _ rfl,rfl,rfl⟩,(hl1.push _)⟩ ?start ?stop
    case start =>
     have g0:((z.heap.push (QB led)).push { cls:=.type "list_iterator",data:=.fields #[.ref l,.int 0 0] }).get? z.heap.objs.size=Za (QB led):=Zi _ gS
     exact SetOf_congr ((setObjOf_fresh (knd:=Zdc pr wd) led).setOf g0 (by unfold Zcm;omega)) (λ _=>rfl) rfl
    case stop =>
     intro z5 mv hS5
     obtain⟨h5,g5,d5,tk5,os5⟩:=z5
     have eg:g5=z.gens:=mv.gens
     have ed:d5=z.drawn:=mv.drawn
     have eo:os5=z.os:=mv.os
     subst eg;subst ed;subst eo
     show Zt _ _ _ _ _ _
     refine Zv ?_
     show Zt _ _ (ret ZK) _ _ _
     rw[len] at hS5
     refine Zv ⟨rfl,h5,tk5,rfl,hS5,λ b o e=>?_⟩
     have lb:=Z0 e
     have b1:b≠z.heap.objs.size:=Z6 lb
     have b2:b≠(z.heap.push (QB led)).objs.size:=by rw[ZcI];exact Z6 (ZcR lb)
     exact mv.heap b o (by simp only[ZH,ZaJ,or_false,not_or];exact⟨b1,b2⟩) (Zi _ (Zi _ e))
   ·cases res2 with
    | error e=>exact hr2
    | ok fl2 =>
     cases fl2 with
     | ret rv =>
      obtain⟨rfl,h2,tk,rfl,hS2,keep⟩:=hr2
      repeat (any_goals (first|assumption|wp_step))
      exact fin _ _ hS2 keep
     | _=>exact hr2.elim
  | _=>exact hr.elim
end
section
variable {ce:CeT}{X:Cx}
def XM (aa:A1):E1:=λ σ h=>(aa σ h).bind λ xs h1=>match xs with
 | [.ref i]=>(match h1[i]? with
  | some (.lst ys)=>(match Vn ys with
   | some zs=>if zs.length+1<Zcm then .ok (.int (cntD (Q0 zs) zs.length)) h1 else .stuck
   | none=>.stuck)
  | _=>.stuck)
 | _=>.stuck
theorem Jsl {a:Expr}{aa:A1}{p pos p2 pos2:Pos}(hh:X.A.handled=Zc)(g1:Gl X "len")(m1:X.mg "len"=Zc)(g2:Gl X "set")(m2:X.mg "set"=Zc)(ha:PAi ce X [a] aa)(hs:Z9 [a] X.env=[(Zh,ZaQ a X.env)]) :
  PEi ce X (.Call (.Name "len" p) [.Call (.Name "set" p2) [a] [] pos2] [] pos) (XM aa):=λ pj s σ H ι σi h Q E N K=>by
 refine ZQ (Qf N.inv g1 m1 rfl ?_)
 refine Zbg ?_ rfl rfl
 refine Zd2 ?_
 refine ZQ (Qf N.inv g2 m2 rfl ?_)
 refine Zah ?_ hs rfl
 refine(ha pos2).run N K λ xs h1 us s1 H1 ι1 N1 n1 r1 K1=>?_
 obtain⟨vs,rv,qs⟩:=r1
 match xs,K1 with
 | [.ref i],K1 =>
  obtain⟨w,rfl,ad,rfl,hav⟩:=qs.one_of
  obtain⟨u,rfl,ru⟩:=Qk rv
  cases ru
  dsimp only at K1
  cases hi:h1[i]? with
  | none=>rw[hi] at K1;exact Zf K1
  | some ob =>
   rw[hi] at K1
   cases ob with
   | lst ys =>
    dsimp only at K1
    cases hb:Vn ys with
    | none=>rw[hb] at K1;exact Zf K1
    | some zs =>
     rw[hb] at K1
     dsimp only at K1
     split at K1
     ·rename_i room
      obtain⟨ws,e1,r3⟩:=N1.at hi hav
      obtain⟨its,rv2,pl,_⟩:=N1.inv.list (SqL.of e1)
      obtain⟨l2,eu,ez⟩:=Jqx hb r3 rv2
      refine Jtl hh pl.isList eu ez room λ h2 tk hS keep=>Zd3 ?_
      obtain⟨o,es,ep,t,ho,hex,hd,hel,hmem,hbb,hf,hn⟩:=hS
      have fit:(es.size:Int)<2^63:=by
       have:=Jkn (Q0 zs) zs.length
       have sb:Zcm<=2^40:=by unfold Zcm;decide
       omega
      refine call_len_set ho hex hd hf fit ?_
      rw[hn]
      exact K1 _ _ _ _ ⟨(N1.inv.kept (t':=_) keep),N1.rel,N1.st⟩ .refl ⟨.int _,⟨_,rfl⟩,rfl⟩
     ·exact Zf K1
   | _=>exact Zf K1
 | [],K1=>exact Zf K1
 | [.non],K1=>exact Zf K1
 | [.bl _],K1=>exact Zf K1
 | [.int _],K1=>exact Zf K1
 | [.str _],K1=>exact Zf K1
 | [.tup _],K1=>exact Zf K1
 | [.rol _],K1=>exact Zf K1
 | x::_::_,K1=>cases x<;>exact Zf K1
end
section
variable {α β:Type}{h h1:IH}{σ:ISt}
def SRes.sq (r:SRes)(b:S1):SRes:=match r with
 | .next σ' h'=>b σ' h'
 | r=>r
theorem Jv2 {n:Nat}{σ:ISt}{h:IH}{c:Str}{fs:List (Str×IV)}(e:h[n]?=Za (.exc c fs)):(SRes.exc n σ h).fin=.exc n h:=by simp[SRes.fin,e]
theorem Jr7 (v:IV)(σ:ISt):Ja 0 (Za v::σ) h=.ok v h:=rfl
theorem Jvy (n:Nat)(x:Option IV)(σ:ISt):Ja (n+1) (x::σ) h=Ja n σ h:=rfl
end
def MulS (x:Str)(n:Int):Bool:=decide (x.length<=1000/\ -1000<=n/\n<=1000)
theorem MulS.ok {x:Str}{n:Int}(h:MulS x n=Zd):MulOk x n:=by
 simp only[MulS,decide_eq_true_eq] at h
 obtain⟨h1,h2,h3⟩:=h
 refine⟨?_,λ hn _=>?_,λ hn _=>?_⟩
 ·simp only[Zdd,decide_eq_false_iff_not]
  omega
 ·have e:(1000:Int)<=(2^63-1)/n:=by
   rw[Zec (by omega)]
   have:(1000:Int)*n<=1000*1000:=Zax h3 (by decide)
   omega
  omega
 ·have:x.length*n.toNat<=1000*1000:=Nat.mul_le_mul h1 (by omega)
  have hb:1000000<sizeLine:=by decide
  unfold Builtin.Str.tooLong
  simp only[decide_eq_false_iff_not]
  omega
theorem Jw9 {X:L2.Cx}:OpR X (ZaT .Mult) (λ x y H Q=>∃i j,x=.str i/\y=.int j/\MulS i j=Zd/\Q (.str (Txt.mul i j)) H):=by
 intro pj s σ H x y v u Q I rx ry h
 obtain⟨i,j,rfl,rfl,hz,q⟩:=h
 obtain⟨t,rfl⟩:=rx
 obtain⟨t',rfl⟩:=ry
 exact SB.mul (MulS.ok hz) λ t' tk=>⟨.str (Txt.mul i j),H,I.tok _,⟨_,rfl⟩,q⟩
def JL (x y:IV)(h:IH):Res IV:=match x with
 | .str i=>(match y with
  | .int j=>if MulS i j then .ok (.str (Txt.mul i j)) h else .stuck
  | _=>.stuck)
 | x=>Xj x y h
section
variable {ce:CeT}{X:Cx}
theorem J0a:OpI ce X (ZaT .Mult) JL:=by
 intro pj s σ H ι σi h x y v u Q E N rx ry K
 cases x with
 | str i =>
  obtain⟨xv,rx,qx⟩:=rx
  obtain⟨yv,ry,qy⟩:=ry
  cases y with
  | int j =>
   have e1:xv=.str i:=qx
   have e2:yv=.int j:=qy
   subst e1 e2
   dsimp only[JL] at K
   split at K
   ·rename_i hz
    exact JU (Jw9 (X:=X.wish E)) N.inv rx ry ⟨i,j,rfl,rfl,hz,fin0 N K rfl⟩
   ·exact Zf K
  | _=>exact Zf K
 | _=>exact J2e pj s σ H ι σi h _ y v u Q E N rx ry K
end
noncomputable def valI (kvs:List (Key×IV))(k:Key):Option IV:=(kvs.find? λ kv=>decide (kv.1=k)).map (·.2)
theorem Jfl {p:Key×IV}{r:List (Key×IV)}{k:Key}(e:p.1=k):valI (p::r) k=Za p.2:=by simp[valI,Zbq,e]
theorem Jfk {p:Key×IV}{r:List (Key×IV)}{k:Key}(e:¬p.1=k):valI (p::r) k=valI r k:=by simp[valI,Zbq,e]
theorem RPs.get {K:W.Frag}{ι:List Zj}{H:Hp}(k:Key):∀{xs:List (Key×IV)}{vs:List (Key×V)},RPs K ι H xs vs->(valI xs k=Zc/\valV vs k=Zc)∨∃v w,valI xs k=Za v/\valV vs k=Za w/\RV K ι H v w
 | [],_,h=>by
  have e:_=[]:=h
  subst e
  exact .inl ⟨rfl,rfl⟩
 | x::xs,_,h=>by
  obtain⟨v,r,rfl,q,t⟩:=h
  by_cases e:x.1=k
  ·exact .inr ⟨x.2,v,Jfl e,Jfo e,q⟩
  ·rw[Jfk e,Jfn e]
   exact RPs.get k t
theorem RPs.snoc {K:W.Frag}{ι:List Zj}{H:Hp}{k:Key}{v:IV}{w:V}(q:RV K ι H v w):∀{xs:List (Key×IV)}{vs:List (Key×V)},RPs K ι H xs vs->RPs K ι H (xs++[(k,v)]) (vs++[(k,w)])
 | [],_,h=>by
  have e:_=[]:=h
  subst e
  exact⟨w,[],rfl,q,rfl⟩
 | x::xs,_,h=>by
  obtain⟨v',r,rfl,q',t⟩:=h
  exact⟨v',r++[(k,w)],rfl,q',RPs.snoc q t⟩
theorem Jic {vs:List (Key×V)}{k:Key}{w:V}(e:valV vs k=Zc):putK vs k w=vs++[(k,w)]:=by
 unfold putK
 rw[if_neg]
 rw[Jfm,e]
 exact Zq
section
variable {ce:CeT}{X:Cx}
def Jr4:E1:=λ _ h=>.ok (.ref h.length) (h++[.dct []])
theorem Jzd {pos:Pos}:PEi ce X (.Dict [] [] pos) Jr4:=λ pj s σ H ι σi h Q E N K=>by
 have hn:=N.inv.hok.fresh (Zr s.heap.objs.size)
 have I1:=N.inv.laid (a:=s.heap.objs.size) (o:=.dK []) (h':=s.heap.push { cls:=.type "dict",data:=.dict #[] }) (t':=s.toks) (λ _ _ q=>Zi _ q) (Zr _) (Jr2 s.heap N.inv.big)
 obtain⟨R1,n1⟩:=N.rel.alloc (o:=.dK []) (io:=.dct []) hn ⟨[],Jw,rfl⟩
 have N1:Now ce X pj (ι++[s.heap.objs.size]) σi (h++[.dct []]) σ (upd H s.heap.objs.size (.dK [])) _:=⟨I1,R1,N.st.mono n1⟩
 have h0:(ι++[s.heap.objs.size])[h.length]?=Za s.heap.objs.size:=by rw[<- N.rel.len,Z4 (Zr _)];simp
 exact wpAny_Dict_empty (K _ _ _ (ι++[s.heap.objs.size]) N1 n1 ⟨.ref _,rfl,_,rfl,h0⟩)
def V2:IV->List IV->IH->Res IV
 | .ref i,[y,v],h=>match h[i]? with
  | some (.dct kvs)=>(match keyI y with
   | some k=>(match valI kvs k with
    | some w=>.ok w h
    | none=>if kvs.length<sizeLine then .ok v (h.set i (.dct (kvs++[(k,v)]))) else .stuck)
   | none=>.stuck)
  | _=>.stuck
 | _,_,_=>.stuck
theorem Js1:MtI ce X "dict" "dict.setdefault" V2:=by
 intro pj s σ H ι σi h x xs v us Q E N rx rs K
 obtain⟨xv,rx,qx⟩:=rx
 obtain⟨vs,rv,qs⟩:=rs
 cases x with
 | ref i =>
  match xs,K with
  | [y,y2],K =>
   obtain⟨a,rfl,ha⟩:=qx
   obtain⟨w,w2,rfl,qw,qw2⟩:=qs.two_of
   dsimp only[V2] at K
   cases hi:h[i]? with
   | none=>rw[hi] at K;exact Zf K
   | some ob =>
    rw[hi] at K
    cases ob with
    | dct kvs =>
     dsimp only at K
     cases ek:keyI y with
     | none=>rw[ek] at K;exact Zf K
     | some k =>
      rw[ek] at K
      dsimp only at K
      obtain⟨ws,e1,r1⟩:=N.at hi ha
      cases Jh7 ek qw
      cases rv with
      | @cons _ _ _ _ ru t =>
      cases t with
      | @cons _ u2 _ _ ru2 t =>
      cases t
      cases (show v=.ref a from rx)
      obtain⟨z,hd,ps,rel,dd⟩:=Jvw N.inv.hok e1
      have hz:ps.length<=sizeLine:=by rw[<- rel.length];exact z
      refine call_meetsIn Zdi dd.typeIs PySem.F.entry_dict_setdefault (PySem.F.args_dict_setdefault_3 _ _ _) (kt_meets_setdefault (QQ X.prog X.w) a (Jwt ru) hd u2) ⟨ps,dd,hz,λ v' hv=>?_,λ hn h' dd' hs=>?_⟩
      ·rcases r1.get k with⟨p,q⟩|⟨v1,w1,p,q,r⟩
       ·have rr:=rel.val k
        rw[q] at rr
        rw[RelO.none_of rr] at hv
        cases hv
       ·rw[p] at K
        have rr:=rel.val k
        rw[q,hv] at rr
        exact fin0 (w:=w1) N K r _ _ (N.inv.tok _) rr
      ·rcases r1.get k with⟨p,q⟩|⟨v1,w1,p,q,r⟩
       ·rw[p] at K
        dsimp only at K
        split at K
        ·rename_i hl
         have he:∃q,h'.get? a=Za q:=let ⟨q,_,_,hq,_⟩:=dd';⟨q,hq⟩
         have hlen:(putK ws k w2).length<=sizeLine:=by rw[Jic q,ZD,r1.length];exact hl
         have I4:=Jvu (t':=s.toks+1) N.inv (by rw[e1];exact ZaK) hs he (Jy0 hlen hd (rel.put k ru2) dd')
         have n:Nxt ι H ι (upd H a (.dK (putK ws k w2))):=⟨⟨[],by simp⟩,Ext.upd_mut e1 (by rw[e1];exact ZaK)⟩
         obtain⟨R4,_⟩:=N.rel.write (o:=.dK (putK ws k w2)) (io:=.dct (kvs++[(k,y2)])) ha e1 (by rw[e1];exact ZaK) ⟨_,Jw,(congrArg (λ P=>RPs X.K ι (upd H a (.dK (putK ws k w2))) (kvs++[(k,y2)]) P) (Jic q)).mpr (RPs.mono n _ _ (r1.snoc qw2))⟩
         exact K _ _ _ ι ⟨I4,R4,N.st.mono n⟩ n ⟨w2,ru2,RV.mono n _ _ qw2⟩
        ·exact Zf K
       ·have rr:=rel.val k
        rw[q,hn] at rr
        exact Zf rr
    | _=>exact Zf K
  | [],K=>exact Zf K
  | [_],K=>exact Zf K
  | _::_::_::_,K=>exact Zf K
 | _=>cases xs<;>exact Zf K
end
theorem RPs.any {K:W.Frag}{ι:List Zj}{H:Hp}(k:Key):∀{xs:List (Key×IV)}{vs:List (Key×V)},RPs K ι H xs vs->(xs.any λ kv=>decide (kv.1=k))=vs.any λ kv=>decide (kv.1=k)
 | [],_,h=>by
  have e:_=[]:=h
  subst e
  rfl
 | x::xs,_,h=>by
  obtain⟨v,r,rfl,q,t⟩:=h
  rw[ZbW,ZbW,RPs.any k t]
theorem RPs.upd {K:W.Frag}{ι:List Zj}{H:Hp}{k:Key}{v:IV}{w:V}(q:RV K ι H v w):∀{xs:List (Key×IV)}{vs:List (Key×V)},RPs K ι H xs vs->RPs K ι H (xs.map λ kv=>if kv.1=k then(kv.1,v) else kv) (vs.map λ kv=>if kv.1=k then(kv.1,w) else kv)
 | [],_,h=>by
  have e:_=[]:=h
  subst e
  exact rfl
 | x::xs,_,h=>by
  obtain⟨v',r,rfl,q',t⟩:=h
  rw[Zu,Zu]
  by_cases e:x.1=k
  ·rw[if_pos e,if_pos e]
   exact⟨w,_,rfl,q,RPs.upd q t⟩
  ·rw[if_neg e,if_neg e]
   exact⟨v',_,rfl,q',RPs.upd q t⟩
section
variable {ce:CeT}{X:Cx}
def Xh (x y:IV)(h:IH):Res IV:=match x with
 | .ref i=>(match h[i]? with
  | some (.dct kvs)=>(match keyI y with
   | some k=>(match valI kvs k with
    | some v=>.ok v h
    | none=>.stuck)
   | none=>.stuck)
  | _=>.stuck)
 | _=>.stuck
theorem J22:IxI ce X Xh:=by
 intro value slice pj s σ H ι σi h x y v u Q E N rx ry K hs
 obtain⟨xv,rx,qx⟩:=rx
 obtain⟨yv,ry,qy⟩:=ry
 cases x with
 | ref i =>
  obtain⟨a,e1,ha⟩:=qx
  subst e1
  dsimp only[Xh] at K
  cases hi:h[i]? with
  | none=>rw[hi] at K;exact Zf K
  | some ob =>
   rw[hi] at K
   cases ob with
   | dct kvs =>
    dsimp only at K
    cases ek:keyI y with
    | none=>rw[ek] at K;exact Zf K
    | some k =>
     rw[ek] at K
     dsimp only at K
     obtain⟨ws,e1,r1⟩:=N.at hi ha
     cases Jh7 ek qy
     cases (show v=.ref a from rx)
     obtain⟨z,hd,ps,rel,dd⟩:=Jvw N.inv.hok e1
     rcases r1.get k with⟨p,q⟩|⟨v1,w1,p,q,r⟩
     ·rw[p] at K;exact Zf K
     ·rw[p] at K
      have rr:=rel.val k
      rw[q] at rr
      obtain⟨w',hw,rw'⟩:=RelO.some_of rr
      exact ZcK (x:=w') dd.typeIs PySem.F.slot_dict_getitem.lookup (wpAny_getItem_of (Q:=λ r s'=>r=w'/\Q r s') (Jwt ry) dd.mapOf hw ⟨rfl,fin0 N K r _ _ (N.inv.tok _) rw'⟩) hs
   | _=>exact Zf K
 | _=>exact Zf K
noncomputable def cInD (x c:IV)(h:IH):Res IV:=match c with
 | .ref i=>(match h[i]? with
  | some (.dct kvs)=>(match keyI x with
   | some k=>.ok (.bl (valI kvs k).isSome) h
   | none=>.stuck)
  | _=>.stuck)
 | _=>.stuck
theorem J2c:OpI ce X (Zan .In) cInD:=by
 intro pj s σ H ι σi h x y v u Q E N rx ry K
 obtain⟨xv,rx,qx⟩:=rx
 obtain⟨yv,ry,qy⟩:=ry
 cases y with
 | ref i =>
  obtain⟨a,e1,ha⟩:=qy
  subst e1
  dsimp only[cInD] at K
  cases hi:h[i]? with
  | none=>rw[hi] at K;exact Zf K
  | some ob =>
   rw[hi] at K
   cases ob with
   | dct kvs =>
    dsimp only at K
    cases ek:keyI x with
    | none=>rw[ek] at K;exact Zf K
    | some k =>
     rw[ek] at K
     dsimp only at K
     obtain⟨ws,e1,r1⟩:=N.at hi ha
     cases Jh7 ek qx
     cases (show u=.ref a from ry)
     obtain⟨z,hd,ps,rel,dd⟩:=Jvw N.inv.hok e1
     refine wpAny_in_of (Jwt rx) hd dd.mapOf ?_
     rw[<- (rel.val k).isSome_eq]
     have es:(valV ws k).isSome=(valI kvs k).isSome:=by
      rcases r1.get k with⟨p,q⟩|⟨v1,w1,p,q,r⟩<;>rw[p,q]<;>rfl
     rw[es]
     exact fin0 N K rfl _ _ (N.inv.tok _) rfl
   | _=>exact Zf K
 | _=>exact Zf K
end
def leZ (a b:Int):Bool:=decide (a<=b)
def Xo (ns:List Int):List Int:=ns.mergeSort leZ
theorem Jtu (ns:List Int):(Xo ns).Pairwise (· <= ·):=by
 have:=List.pairwise_mergeSort (le:=leZ) (λ a b c h1 h2=>by simp only[leZ,decide_eq_true_eq] at *;omega) (λ a b=>by simp only[leZ,Za4,decide_eq_true_eq];omega) ns
 exact this.imp λ h=>by simpa [leZ] using h
theorem Jmd {ns ns':List Int}(p:ns'.Perm ns)(s:ns'.Pairwise (· <= ·)):ns'=Xo ns :=
 List.Perm.eq_of_pairwise (le:=(· <= ·)) (λ a b _ _ h1 h2=>Int.le_antisymm h1 h2) s (Jtu ns) (p.trans (List.mergeSort_perm ns leZ).symm)
theorem Xu:∀{us:List Ze}{ns:List Int},Zca us ns->Vals (ns.map V.int) us
 | _,_,.nil=>.nil
 | _,_,.cons _ _ r=>.cons ⟨_,rfl⟩ (Xu r)
theorem Jie {K:W.Frag}{ι:List Zj}{H:Hp}:∀ns:List Int,RVs K ι H (ns.map IV.int) (ns.map V.int)
 | []=>rfl
 | _::ns=>⟨_,_,rfl,rfl,Jie ns⟩
def srtI (xs:List IV):Option (List IV):=match Qb xs with
 | some ns=>Za ((Xo ns).map .int)
 | none=>Zc
section
variable {ce:CeT}{X:Cx}
def QX:IV->IH->Res IV
 | .ref i,h=>match h[i]? with
  | some (.lst xs)=>if xs.length<64 then(match srtI xs with
   | some ys=>.ok (.ref h.length) (h++[.lst ys])
   | none=>.stuck) else .stuck
  | _=>.stuck
 | _,_=>.stuck
theorem Jrz:Q6 ce X (.builtin "sorted") (on1 QX):=Xa λ pj s σ H ι σi h x xv u Q E N ru qx K=>by
 cases x with
 | ref i =>
  obtain⟨a,e1,ha⟩:=qx
  subst e1
  cases ru
  dsimp only[QX] at K
  cases hi:h[i]? with
  | none=>rw[hi] at K;exact Zf K
  | some ob =>
   rw[hi] at K
   cases ob with
   | lst xs =>
    dsimp only at K
    split at K
    ·rename_i h64
     obtain⟨vs,e1,r1⟩:=N.at hi ha
     obtain⟨its,rv,pl,hz⟩:=N.inv.list (SqL.of e1)
     have li:its.length=xs.length:=by rw[<- rv.length,r1.length]
     have hb:64<=sizeLine:=by decide
     have Zeg:H (s.heap.objs.size+1)=Zc:=N.inv.hok.fresh (ZaC _)
     unfold srtI at K
     cases ei:Qb xs with
     | some ns =>
      rw[ei] at K
      have are:=XR ei r1 rv
      have ln:=Jb0 are
      refine sorted_ints pl.isList are (by omega) λ out ns' hI hp hs=>?_
      have en:=Jmd hp hs
      subst en
      obtain⟨e,he⟩:=sortedAll_at s.heap its out
      have hl:((Xo ns).map V.int).length<=sizeLine:=by rw[Zp,hp.length_eq];omega
      have I':=N.inv.laid (a:=s.heap.objs.size+1) (o:=.lst ((Xo ns).map V.int)) (h':=sortedAll s.heap its out) (t':=s.toks) (λ _ _=>sortedAll_old) (ZaC _) ⟨hl,out.toList,e,Xu hI,he⟩
      exact finA N K (s.heap.objs.size+1) Zeg ⟨_,Jw,Jie _⟩ _ _ I' rfl
     | none =>
      rw[ei] at K
      exact Zf K
    ·exact Zf K
   | _=>exact Zf K
 | _=>exact Zf K
end
section
variable {pr:ZA}{wd:ZM}{B:ZG}{R:ZdA->Zk->Prop}{it:Zj}{fps wrs:List Zj}{n:Nat}{P:Nat->Ze->Prop}{St:Nat->ZZ->Prop}
end
section
variable {pr:ZA}{wd:ZM}{B:ZG}{E:QvT}{z:Zk}{l:Zj}{us:List Ze}{ns:List Int}{Q:QvT}
end
section
variable {ce:CeT}{X:Cx}
end
theorem RVs.erase {K:W.Frag}{ι:List Zj}{H:Hp}:∀{xs:List IV}{vs:List V}(k:Nat),RVs K ι H xs vs->RVs K ι H (xs.eraseIdx k) (vs.eraseIdx k)
 | [],vs,k,h=>by
  cases (show vs=[] from h)
  exact rfl
 | _::_,_,0,h=>by
  obtain⟨v,r,rfl,q,t⟩:=h
  exact t
 | _::_,_,k+1,h=>by
  obtain⟨v,r,rfl,q,t⟩:=h
  exact⟨v,r.eraseIdx k,rfl,q,RVs.erase k t⟩
section
variable {ce:CeT}{X:Cx}
def Xc:IV->List IV->IH->Res IV
 | .ref i,[.ref j],h=>match h[i]? with
  | some (.lst xs)=>(match h[j]? with
   | some (.lst ys)=>if xs.length+ys.length<=sizeLine then .ok .non (h.set i (.lst (xs++ys))) else .stuck
   | _=>.stuck)
  | _=>.stuck
 | _,_,_=>.stuck
theorem Jsy:MtI ce X "list" "list.extend" Xc:=by
 intro pj s σ H ι σi h x xs v us Q E N rx rs K
 obtain⟨xv,rx,qx⟩:=rx
 obtain⟨vs,rv,qs⟩:=rs
 cases x with
 | ref i =>
  match xs,K with
  | [y],K =>
   cases y with
   | ref j =>
    obtain⟨a,rfl,ha⟩:=qx
    obtain⟨w,rfl,b,rfl,hb⟩:=qs.one_of
    dsimp only[Xc] at K
    cases hi:h[i]? with
    | none=>rw[hi] at K;exact Zf K
    | some ob =>
     rw[hi] at K
     cases ob with
     | lst zs =>
      dsimp only at K
      cases hj:h[j]? with
      | none=>rw[hj] at K;exact Zf K
      | some oj =>
       rw[hj] at K
       cases oj with
       | lst ys =>
        dsimp only at K
        split at K
        ·rename_i hl
         obtain⟨ws,e1,r1⟩:=N.at hi ha
         obtain⟨ws2,e2,r2⟩:=N.at hj hb
         exact Jvf (Jp8 (X:=X.wish E)) N.inv rx rv ⟨a,b,ws,ws2,rfl,rfl,e1,e2,by rw[r1.length,r2.length];exact hl,finW (ys:=zs++ys) N K ha e1 (r1.append r2) rfl⟩
        ·exact Zf K
       | _=>exact Zf K
     | _=>exact Zf K
   | _=>exact Zf K
  | [],K=>exact Zf K
  | y::_::_,K=>cases y<;>exact Zf K
 | _=>cases xs with
  | nil=>exact Zf K
  | cons y r=>cases y<;>cases r<;>exact Zf K
def isK (k:Int):Ze->Bool
 | .int a _=>a==k
 | _=>Zh
theorem Jpr:∀(us:List Ze)(ns:List Int),us.length=ns.length->(∀i v,us[i]?=Za v->∃t:Tok,v=Zdq (ns.getD i 0) t)->Zca us ns
 | [],[],_,_=>.nil
 | u::us,n::ns,hl,h=>by
  obtain⟨t,e⟩:=h 0 u rfl
  cases (show u=.int n t from e)
  exact .cons n t (Jpr us ns (by simpa using hl) λ i v q=>h (i+1) v q)
 | [],_::_,hl,_=>by cases hl
 | _::_,[],hl,_=>by cases hl
def eLR (aa:A1):E1:=λ σ h=>(aa σ h).bind λ xs h1=>match xs with
 | [.int j]=>if 0<=j/\j<=1000 then .ok (.ref h1.length) (h1++[.lst (rngI 0 j)]) else .stuck
 | _=>.stuck
theorem Jqh (j:Int):rngI 0 j=((Z8 j.toNat).map λ k=>((k:Nat):Int)).map IV.int:=by
 simp[rngI]
theorem Jpp {a:Expr}{aa:A1}{p pos p2 pos2:Pos}(hh:X.A.handled=Zc)(g1:Gl X "list")(m1:X.mg "list"=Zc)(g2:Gl X "range")(m2:X.mg "range"=Zc)(ha:PAi ce X [a] aa)(hs:Z9 [a] X.env=[(Zh,ZaQ a X.env)]) :
  PEi ce X (.Call (.Name "list" p) [.Call (.Name "range" p2) [a] [] pos2] [] pos) (eLR aa):=λ pj s σ H ι σi h Q E N K=>by
 refine ZQ (Qf N.inv g1 m1 rfl ?_)
 refine Zah ?_ rfl rfl
 refine Zd2 ?_
 refine ZQ (Qf N.inv g2 m2 boot_range ?_)
 refine Zah ?_ hs rfl
 refine(ha pos2).run N K λ xs h1 us s1 H1 ι1 N1 n1 r1 K1=>?_
 obtain⟨vs,rv,qs⟩:=r1
 match xs,K1 with
 | [.int j],K1 =>
  obtain⟨w,rfl,qw⟩:=qs.one_of
  cases (show w=.int j from qw)
  obtain⟨u,rfl,t,rfl⟩:=Qk rv
  dsimp only at K1
  split at K1
  ·rename_i hj
   refine call_range_1 (Zd3 ?_)
   have I2:=N1.inv.kept (h':=s1.heap.push { cls:=.type "range",data:=.fields #[.int 0 s1.toks,.int j t,.int 1 (s1.toks+1)] }) (t':=s1.toks+1+1) λ b o e=>Zi _ e
   refine call_list_range (n:=j.toNat) hh (Z1 _ rfl) ?_ ?_ (by omega) λ h3 tk acc c' keep hget its=>?_
   ·exact small_one (by decide) (by decide) (by omega) (by omega)
   ·rw[rangeSize_one]
    split<;>omega
   ·have sb:(1000:Nat)<=sizeLine:=by decide
    have are:Zca acc.toList ((Z8 j.toNat).map λ k=>((k:Nat):Int)):=by
     refine Jpr _ _ (by simp[its.1]) λ i v hv=>?_
     obtain⟨t,rfl⟩:=its.2 i v (by simpa using hv)
     have hi:i<j.toNat:=by
      have:=(Zo.mp hv).1
      simp only[Zbs,its.1] at this
      exact this
     exact⟨t,by simp[Zw,hi]⟩
    rw[Jqh] at K1
    have Zeg:H1 (s1.heap.objs.size+1)=Zc:=N1.inv.hok.fresh (ZaC _)
    have hz:(s1.heap.push { cls:=.type "range",data:=.fields #[.int 0 s1.toks,.int j t,.int 1 (s1.toks+1)] }).objs.size=s1.heap.objs.size+1:=Zdz ..
    rw[hz] at hget ⊢
    have I':=N1.inv.laid (a:=s1.heap.objs.size+1) (o:=.lst (((Z8 j.toNat).map λ k=>((k:Nat):Int)).map V.int)) (h':=h3) (t':=tk) (λ b o e=>keep b o (Zi _ e)) (ZaC _) ⟨by simp;omega,acc.toList,c',Xu are,by simpa using hget⟩
    exact finA N1 K1 (s1.heap.objs.size+1) Zeg ⟨_,Jw,Jie _⟩ _ _ I' rfl
  ·exact Zf K1
 | [],K1=>exact Zf K1
 | [.non],K1=>exact Zf K1
 | [.bl _],K1=>exact Zf K1
 | [.ref _],K1=>exact Zf K1
 | [.str _],K1=>exact Zf K1
 | [.tup _],K1=>exact Zf K1
 | [.rol _],K1=>exact Zf K1
 | x::_::_,K1=>cases x<;>exact Zf K1
end
section
variable {prog:ZA}{w:ZM}{A:ZG}{E:QvT}{s:Zk}
end
open AutoSeq1 (wpAny_loadPart') in
section
variable {prog:ZA}{w:ZM}{A:ZG}{E:QvT}{s:Zk}
end
section
variable {ce:CeT}{X:Cx}
end
def QO (a:ZcB):Option Str:=match a with
 | { posonlyargs:=[],args:=[p],vararg:=Zc,kwonlyargs:=[],kw_defaults:=[],kwarg:=Zc,defaults:=[] }=>Za p.arg
 | _=>Zc
abbrev lamQ (q:Str):Str:=q++".<locals>."++"<lambda>"
abbrev lamO (q:Str)(params:ZcB)(body:Expr)(scope:ZaY)(cl:List (Str×Zj))(pm ctv:Ze)(c:Zj):Obj:=W.kla_obj "<lambda>" (lamQ q) params body scope cl pm c ctv
def Qs (mg:Str->Option Ze)(base:ZZ):Prop :=
 ∃bm ob,mg "__builtins__"=Za (.ref bm)/\bm≠Zc5/\bm≠Zm/\base.get? bm=Za ob/\ob.cls=.type "module"/\ob.dict=Za Zc5/\ob.data=.plain
theorem Q7.rec {H:Hp}{q:Str}{cv:Ze}{P:ZA}{w:ZM}{h:ZZ}(l:Q7 H q cv)(hok:HOk P w H h):h.CodeRec cv (lamQ q):=by
 obtain⟨c,oc,vs,t,e1,e2,e3,e4⟩:=l
 exact⟨c,oc,vs,t,e1,(hok c _ e2).1,e3,e4⟩
theorem Q7.mono {H H':Hp}{q:Str}{cv:Ze}(fz:∀b o u,H b=Za (.frz o u)->H' b=Za (.frz o u))(l:Q7 H q cv):Q7 H' q cv:=by
 obtain⟨c,oc,vs,t,e1,e2,r⟩:=l
 exact⟨c,oc,vs,t,e1,fz _ _ _ e2,r⟩
theorem Jg3 {pos:Pos}{a b:Int}{c cv:Ze}:∀(l:List Ze),TriplesOk l->ZdN pos (l++[ZbK a,ZbK b,c])=Za cv->ZdN pos l=Za cv∨cv=c
 | [],_,e=>by
  simp only[Za3,ZbK,ZdN] at e
  split at e
  ·cases e;exact .inr rfl
  ·cases e
 | .int x t::.int y u::z::rest,h,e=>by
  simp only[ZS,ZdN] at e ⊢
  split at e
  ·rename_i hh
   rw[if_pos hh]
   exact .inl e
  ·rename_i hh
   rw[if_neg hh]
   exact Jg3 rest h e
 | [.int _ _],h,_=>(show False from h).elim
 | [.int _ _,.int _ _],h,_=>(show False from h).elim
section
variable {ce:CeT}{X:Cx}
theorem Now.pinO {pj:PnT}{ι:List Zj}{σi:ISt}{h:IH}{σ:L2.St}{H:Hp}{s:Zk}{f:Zj}{fo:Obj}(N:Now ce X pj ι σi h σ H s)(e:s.heap.get? f=Za fo)(F:FpOk X pj H f)(d:∀v,fo.data≠.cell v):Now ce X (pj++[(f,fo)]) ι σi h σ H s:=by
 have I:=N.inv.pinned (fp:=[f]) (λ b hb=>by rw[ZE.mp hb];exact F) (λ b hb=>by rw[ZE.mp hb];exact⟨fo,e,d⟩)
 have ep:Qy [f] s.heap=[(f,fo)]:=by simp[Qy,e]
 rw[ep] at I
 exact⟨I,N.rel,N.st⟩
theorem Jl3 {q:Str}{j:Nat}{params:ZcB}{body:Expr}{scope:ZaY}{pos:Pos}{cl:List (Str×Zj)}{pj:PnT}{s:Zk}{σ:L2.St}{H:Hp}{ι:List Zj}{σi:ISt}{h:IH}{Q:QvT}{E:QvT}
  (N:Now ce X pj ι σi h σ H s)(hj:h[j]?=Za (.tab q))(hcd:W.codeIn X.K X.env.code q=Zd)(hq:X.env.qual=q++".<locals>.")(hdef:defaultsOf params X.env=([],[]))(hcl:Zdx scope X.env=pure cl)(B:Qs X.mg X.base)
  (K:∀f c pm ctv s' H',Now ce X (pj++[(f,lamO q params body scope cl pm ctv c)]) ι σi h σ H' s'->Nxt ι H ι H'->Q7 H' q (.ref c)->Q (.ref f) s') :
  Zt (Z3 X.prog X.w) X.A (ZaQ (.Lambda params body scope pos) X.env) Q E s:=by
 obtain⟨a,ha,hc,ps,hP,ht,hcodes⟩:=N.rel.at_ j _ hj
 obtain⟨c,ec,hhd⟩:=hc _ hcd
 have I:=N.inv
 have C:=W.codeHd_of_K I.kIn hhd
 have gP:s.heap.get? a=Za (W.tabObj ps):=I.hok a _ hP
 have hg:s.heap.Ns Zm X.mg:=I.ok.mod.glob.keeps I.bk
 obtain⟨bm,ob,b1,b2,b3,b4,b5,b6,b7⟩:=B
 have gb:=I.bs bm ob b4
 have nba:bm≠a:=λ z=>by rw[z,hP] at gb;cases gb.2
 have hb:s.heap.BuiltinsAt X.mg a:=⟨bm,ob,b1,b2,b3,nba,gb.1,b5,b6,b7⟩
 have nga:Zm≠a:=λ z=>by
  obtain⟨o,es,ep,e,d,_⟩:=hg
  rw[z,gP] at e
  cases e
  cases d
 refine W.kla_eval hdef ?_
 rw[hq]
 cases ea:ZdN pos ps.toList with
 | some cv =>
  have LC:=hcodes pos cv ea
  obtain⟨c',oc,vs,t,ecv,_⟩:=id LC
  subst ecv
  refine W.kla_makeFunctionHit hcl I.ok.glob hg ec C gP ht ea hb λ ctv h' tk hk hsz=>?_
  have I1:=I.kept (h':=h'.push (lamO q params body scope cl ((X.mg "__name__").getD .none) ctv c')) (t':=tk) λ b o e=>Zi _ (hk b o e)
  have N1:Now ce X pj ι σi h σ H _:=⟨I1,N.rel,N.st⟩
  exact K h'.objs.size c' _ ctv _ H (N1.pinO (Z1 _ rfl) (I.fpOk hsz (I.hok.fresh hsz)) λ v z=>by
   have z':Data.func _=ZeM v:=z
   cases z') .refl LC
 | none =>
  refine W.kla_makeFunction hcl I.ok.glob hg ec C gP ht ea nga hb λ c' ctv h' tk hx hge hlt hrec htb=>?_
  obtain⟨c2,oc,vs,t,e2,hoc,hd,hv⟩:=hrec
  cases e2
  generalize hps:ps++#[ZbK pos.line,ZbK pos.col,.ref c']=ps' at htb
  generalize hob:lamO q params body scope cl ((X.mg "__name__").getD .none) ctv c'=fo
  have fc:H c'=Zc:=I.hok.fresh hge
  have nca:c'≠a:=λ z=>by rw[z,hP] at fc;cases fc
  have lts:s.heap.objs.size<=h'.objs.size:=Zal hge (ZcF hlt)
  obtain⟨H',hH⟩:∃H',H'=upd (upd H a (.tbl ps')) c' (.frz oc (.own 0)):=⟨_,rfl⟩
  have Ha:H' a=Za (.tbl ps'):=by rw[hH,Jl (ZT nca),Jw]
  have Hc:H' c'=Za (.frz oc (.own 0)):=by rw[hH,Jw]
  have Ho:∀b,b≠a->b≠c'->H' b=H b:=λ b h1 h2=>by rw[hH,Jl h2,Jl h1]
  have kp:∀b o,b≠a->s.heap.get? b=Za o->(h'.push fo).get? b=Za o:=λ b o hb e=>Zi _ (hx b o hb e)
  have ga:(h'.push fo).get? a=Za (W.tabObj ps'):=Zi _ htb
  have frz:∀b o u,H b=Za (.frz o u)->H' b=Za (.frz o u):=λ b o u e=>by rw[Ho b (λ z=>by rw[z,hP] at e;cases e) (λ z=>by rw[z,fc] at e;cases e)];exact e
  have tup:∀b xs,H b=Za (.tup xs)->H' b=Za (.tup xs):=λ b xs e=>by rw[Ho b (λ z=>by rw[z,hP] at e;cases e) (λ z=>by rw[z,fc] at e;cases e)];exact e
  have own:∀b x,H b=Za (.own x)->H' b=Za (.own x):=λ b x e=>by rw[Ho b (λ z=>by rw[z,hP] at e;cases e) (λ z=>by rw[z,fc] at e;cases e)];exact e
  have I1:Inv X pj σ H' { s with heap:=h'.push fo,toks:=tk }:=by
   refine I.step (g':=s.gens) (d':=s.drawn) (ch:=[]) (λ b hb=>absurd hb (by simp)) (λ b o _ _ _ e n=>kp b o (λ z=>by rw[z,hP] at n;cases n) e) (λ b o _ _ _ e n=>⟨o.slots,kp b o (λ z=>by rw[z,hP] at n;cases n) e⟩) (λ b o _ e n=>?_) (λ b o _ e=>?_) tup frz (λ b qs e=>?_) (λ m hm=>?_) (λ b u e=>?_) I.bare
   ·rw[Ho b (λ z=>by rw[z,hP] at n;cases n) (Z6 (ZJ (Z0 e) hge))];exact n
   ·by_cases hb:b=a
    ·subst hb;exact⟨_,ga⟩
    ·exact⟨o,kp b o hb e⟩
   ·by_cases hb:b=a
    ·subst hb
     rw[hP] at e
     cases e
     exact⟨_,by rw[Ha,<-hps]⟩
    ·exact⟨#[],by rw[Ho b hb (λ z=>by rw[z,fc] at e;cases e),e];simp⟩
   ·obtain⟨o,es,ep,ho,r⟩:=hm
    exact⟨o,es,ep,kp _ o (λ z=>by have:=I.free;rw[z,hP] at this;cases this) ho,r⟩
   ·by_cases hb:b=a
    ·subst hb
     rw[Ha] at e
     cases e
     exact ga
    ·by_cases hb2:b=c'
     ·subst hb2
      rw[Hc] at e
      cases e
      exact⟨Zi _ hoc,_,Zi _ hoc⟩
     ·rw[Ho b hb hb2] at e
      refine(I.hok b u e).stay (λ d v hd r=>kp d v (λ z=>?_) r) (λ d z=>own d _ z) tup
      subst z
      rcases hd with z|z
      ·exact hb z.symm
      ·rw[hP] at z;cases z
  have n:Nxt ι H ι H':=⟨⟨[],by simp⟩,⟨tup,frz⟩⟩
  have LC:Q7 H' q (.ref c'):=⟨c',oc,vs,t,rfl,Hc,hd,hv⟩
  have R:Rel ce X.K ι h H':=by
   refine⟨N.rel.len,N.rel.nd,λ i o e=>?_⟩
   obtain⟨b,eb,ro⟩:=N.rel.at_ i o e
   refine⟨b,eb,?_⟩
   by_cases hb:b=a
   ·subst hb
    have hij:i=j:=N.rel.inj eb ha
    subst hij
    rw[hj] at e
    cases e
    refine⟨hc,ps',Ha,?_,λ pos' cv ea'=>?_⟩
    ·rw[<- hps,Array.toList_append]
     exact TriplesOk_snoc _ _ _ _ ht
    ·rw[<- hps,Array.toList_append] at ea'
     rcases Jg3 ps.toList ht ea' with z|z
     ·exact(hcodes pos' cv z).mono frz
     ·rw[z];exact LC
   ·refine ro.mono n λ u hu=>?_
    rw[Ho b hb (λ z=>by rw[z,fc] at hu;cases hu)]
    exact hu
  have N1:Now ce X pj ι σi h σ H' _:=⟨I1,R,N.st.mono n⟩
  subst hob
  exact K h'.objs.size c' _ ctv _ H' (N1.pinO (Z1 _ rfl) (I.fpOk lts (by rw[Ho _ (Zbi (ZJ (Z0 gP) lts)) (Zbi hlt)];exact I.hok.fresh lts)) λ v z=>by
   have z':Data.func _=ZeM v:=z
   cases z') n LC
end
abbrev envL (q:Str)(scope:ZaY)(L f:Zj)(cd:Ze)(cl:List (Str×Zj)):Env:=newEnv scope L Zm cl (lamQ q++".<locals>.") (Za f) cd Zc Zc5
def cxL (X:Cx)(A:ZG)(N':List Str)(q:Str)(scope:ZaY)(f:Zj)(cd:Ze)(s:Zk)(H:Hp):Cx :=
 { X with A:=A.deeper (envL q scope s.heap.objs.size f cd (clOf X.env.cells scope.names [])),N:=N',s₀:=s,H₀:=H,env:=envL q scope s.heap.objs.size f cd (clOf X.env.cells scope.names []),outer:=X.stack,stack:=envL q scope s.heap.objs.size f cd (clOf X.env.cells scope.names [])::X.stack,ex:=[],calm:=Zd,fn:=λ _=>Zh,pn:=[],xe:=λ _ _=>False }
structure LamSc (N0:List Str)(sc₀:List (Str×Zbe))(x:Str)(caps:List Str)(js:List Nat)(scope:ZaY):Prop where
 kind:scope.kind=.function
 co:scope.isCoroutine=Zh
 gen:scope.isGenerator=Zh
 nocell:∀y∈scope.names,y.2≠.cell
 par:scope.names.lookup x=Za .local
 free:∀y∈scope.names,y.2=.free->sc₀.lookup y.1=Za .cell
 fr:∀y,scope.names.lookup y=Za .free->(y,.free)∈scope.names
 cap:∀(k j:Nat)(y:Str),js[k]?=Za j->caps[k]?=Za y->N0[j]?=Za y/\scope.names.lookup y=Za .free
 len:js.length=caps.length
 nd:(x::caps).Nodup
theorem Jry {p:Arg}{nm qu:Str}{body:Expr}{scope:ZaY}{cl:List (Str×Zj)}{pm cd ctv u:Ze}:ZdK (W.kla_fn nm qu { posonlyargs:=[],args:=[p],vararg:=Zc,kwonlyargs:=[],kw_defaults:=[],kwarg:=Zc,defaults:=[] } body scope cl pm cd ctv) ⟨[u],[]⟩=pure [(p.arg,u)]:=by
 have e:(ZbB p.arg [(p.arg,u)]).isNone=Zh:=by simp
 unfold ZdK
 simp[ZcZ,e]
 rfl
section
variable {ce:CeT}{X:Cx}
theorem Jp0 {k:Nat}{A:ZG}{q x:Str}{caps:List Str}{js:List Nat}{params:ZcB}{body:Expr}{scope:ZaY}{pm ctv:Ze}{c f:Zj}{m:E1}{v:IV}{u:Ze}{pj:PnT}{s:Zk}{σ:L2.St}{H:Hp}{ι:List Zj}{σi:ISt}{h:IH}{Q:QvT}{E:QvT}
  (hA:A.frames=Za X.stack)(hr:Room (k+1) A)(N:Now ce X pj ι σi h σ H s)(hf:s.heap.get? f=Za (lamO q params body scope (clOf X.env.cells scope.names []) pm ctv c))(LC:Q7 H q (.ref c))(hx:QO params=Za x)(S:LamSc X.N X.env.scope.names x caps js scope)
  (hb:∀s' H',PEi ce (cxL X A (x::caps) q scope f (.ref c) s' H') body m)(ru:RU X.K ι H v u)(K:Kont ce X RU pj ι σi σ H ((m (Za v::js.map λ j=>(σi[j]?).join) h).nx) Q E) :
  Zt (Z3 X.prog X.w) A (call (.ref f) [u]) Q E s:=by
 have I:=N.inv
 have e0:=I.env0
 have lim:s.heap.NoLimit:=e0.mod.nolimit.keeps λ b o e=>(e0.bs b o e).1
 refine Zc6 (W.kla_callFunE hr.depth hf rfl S.co S.gen rfl (LC.rec I.hok) ?_)
 have hbind:ZdK (W.kla_fn "<lambda>" (lamQ q) params body scope (clOf X.env.cells scope.names []) pm (.ref c) ctv) ⟨[u],[]⟩=pure [(x,u)]:=by
  unfold QO at hx
  split at hx
  ·cases hx
   exact Jry
  ·cases hx
 rw[hbind]
 refine Zv (wpAny_newFunctionEnv S.nocell (λ y hy=>by rw[ZE.mp hy];exact S.par) (λ h3 hns hsb=>⟨lim.fresh _ hsb,?_⟩) S.kind)
 obtain⟨w,rw',qw⟩:=ru
 have keep:∀b o,s.heap.get? b=Za o->h3.get? b=Za o:=λ b o z=>(hsb.2 b (Z6 (Z0 z))).trans (Zi _ z)
 have cells':∀y d,(clOf X.env.cells scope.names []).lookup y=Za d->X.env.cells.lookup y=Za d:=Jhx _ _ (λ y d z=>by simp at z)
 have okX:(cxL X A (x::caps) q scope f (.ref c) s H).Ok:=by
  have noA:∀b:Zj,b∉(cxL X A (x::caps) q scope f (.ref c) s H).ex:=λ b z=>absurd (show b∈([]:List Zj) from z) (by simp)
  refine⟨I.ok.mod,S.kind,rfl,rfl,Zr _,λ y y' d a b=>I.ok.inj y y' d (cells' y d a) (cells' y' d b),λ y hy=>?_,λ y d z=>absurd (show Zh=Zd from z) Zq,λ _=>hr.hd,Around.frames_deeper hA,.inr ⟨rfl,rfl⟩,λ b z=>absurd z (noA b),e0.bs,e0.bsz,λ b _ _=>noA b,λ b z=>absurd z (noA b),e0.funs,e0.frf⟩
  have hy':scope.names.lookup y=Za .cell∨scope.names.lookup y=Za .free:=hy
  rcases hy' with z|z
  ·exact absurd rfl (S.nocell _ (Zae z))
  ·have hm:=Zae z
   obtain⟨d,hd⟩:=I.ok.has y (.inl (S.free (y,.free) hm rfl))
   exact Za6.mp (XH _ _ y d hm hd)
 have I3:Inv (cxL X A (x::caps) q scope f (.ref c) s H) [] (Za w::js.map λ j=>(σ[j]?).join) H { s with heap:=h3,toks:=s.toks+[(x,u)].length }:=by
  refine⟨okX,rfl,I.bare,Un.kept keep,⟨_,hns,λ i y z a b cc=>?_⟩,λ y d z=>?_,I.hok.fresh (Zr _),λ y d z=>I.freeC y d (cells' y d z),λ p hp=>absurd (show p∈([]:PnT) from hp) (by simp),I.hok.kept keep,by show _=(x::caps).length;simp[S.len]⟩
  ·cases i with
   | zero =>
    have a':Za x=Za y:=a
    cases a'
    have b':Za (Za w)=Za (Za z):=b
    cases b'
    exact⟨u,rw',.inl ⟨S.par,by simp⟩⟩
   | succ i =>
    have a':caps[i]?=Za y:=a
    have b':(js.map λ j=>(σ[j]?).join)[i]?=Za (Za z):=b
    rw[Z7] at b'
    cases ej:js[i]? with
    | none=>rw[ej] at b';cases b'
    | some j =>
     rw[ej] at b'
     have b2:(σ[j]?).join=Za z:=Zad b'
     have hσ:σ[j]?=Za (Za z):=by
      cases es:σ[j]? with
      | none=>rw[es] at b2;cases b2
      | some o=>rw[es] at b2;rw[show o=Za z from b2]
     obtain⟨hx1,hx2⟩:=S.cap i j y ej a'
     have hm:=Zae hx2
     have hk:=S.free (y,.free) hm rfl
     obtain⟨m0,hn,hl⟩:=I.loc
     obtain⟨u',ru',lk⟩:=hl j y z hx1 hσ (.inr (.inl hk))
     rcases lk with⟨e,_⟩|⟨e,d,hd,hcell⟩
     ·have hk':X.env.scope.names.lookup y=Za .cell:=hk
      have e':X.env.scope.names.lookup y=Za .local:=e
      rw[hk'] at e'
      cases e'
     ·obtain⟨d',hd2⟩:=Za6.mp (XH (cells:=X.env.cells) scope.names [] y d hm hd)
      have:=cells' y d' hd2
      rw[hd] at this
      cases this
      obtain⟨oc,hoc,hdd⟩:=hcell
      exact⟨u',ru',.inr ⟨.inr hx2,d,hd2,oc,keep _ _ hoc,hdd⟩⟩
  ·obtain⟨z',o,ho,hd⟩:=I.cell y d (cells' y d z)
   exact⟨z',o,keep _ _ ho,hd⟩
 have N3:Now ce (cxL X A (x::caps) q scope f (.ref c) s H) [] ι (Za v::js.map λ j=>(σi[j]?).join) h (Za w::js.map λ j=>(σ[j]?).join) H { s with heap:=h3,toks:=s.toks+[(x,u)].length }:=by
  refine⟨I3,N.rel,by simp,λ i z a=>?_⟩
  cases i with
  | zero =>
   have a':Za (Za v)=Za (Za z):=a
   cases a'
   exact⟨w,rfl,qw⟩
  | succ i =>
   have a':(js.map λ j=>(σi[j]?).join)[i]?=Za (Za z):=a
   rw[Z7] at a'
   cases ej:js[i]? with
   | none=>rw[ej] at a';cases a'
   | some j =>
    rw[ej] at a'
    have a2:(σi[j]?).join=Za z:=Zad a'
    have hσ:σi[j]?=Za (Za z):=by
     cases es:σi[j]? with
     | none=>rw[es] at a2;cases a2
     | some o=>rw[es] at a2;rw[show o=Za z from a2]
    obtain⟨z',ez,qz⟩:=N.st.2 j z hσ
    refine⟨z',?_,qz⟩
    show(js.map λ j=>(σ[j]?).join)[i]?=Za (Za z')
    rw[Z7,ej]
    show Za ((σ[j]?).join)=_
    rw[ez]
    rfl
 refine W.kla_codeExpr (ZP (hb s H [] _ _ H ι _ h (λ u' s'=>Q u' s') (λ _ _=>False) N3 ?_) (λ _ _ z=>z) λ _ _ z=>z.elim)
 cases er:m (Za v::js.map λ j=>(σi[j]?).join) h with
 | ok v' h' =>
  rw[er] at K
  intro u' s' H' ι' N' n' ⟨z,rz,qz⟩
  have J:=N'.inv
  obtain⟨_,_,I',rz',e1,e2⟩:=I.after (Q:=λ z2 H2=>z2=z/\H2=H') ⟨z,H',J.os,J.bare,J.base,J.hok,rz,rfl,rfl⟩
  subst e1
  subst e2
  exact K u' s' _ ι' ⟨I',N'.rel,N.st.mono n'⟩ n' ⟨_,rz',qz⟩
 | exc n h'=>rw[er] at K;exact Zf K
 | stuck=>rw[er] at K;exact Zf K
end
def gtZ:IV->IV->Option Bool
 | .int a,.int b=>Za (decide (a>b))
 | _,_=>Zc
def QN (gt:IV->IV->Option Bool)(mk:IV->IH->Res IV)(i n:Nat):Nat->IV->IV->IH->Res IV
 | 0,b,_,h=>(match h[i]? with
  | some (.lst ys)=>if ys.length=n then .ok b h else .stuck
  | _=>.stuck)
 | r+1,b,kb,h=>(match h[i]? with
  | some (.lst ys)=>if ys.length=n then(match ys[n-(r+1)]? with
    | some y=>(mk y h).nx.bind λ k h'=>(match gt k kb with
     | some Zd=>QN gt mk i n r y k h'
     | some Zh=>QN gt mk i n r b kb h'
     | none=>.stuck)
    | none=>.stuck) else .stuck
  | _=>.stuck)
def Xf (gt:IV->IV->Option Bool)(mk:IV->IH->Res IV)(i:Nat)(d:IV)(h:IH):Res IV:=match h[i]? with
 | some (.lst ys)=>(match ys[0]? with
  | some y=>(mk y h).nx.bind λ k h'=>QN gt mk i ys.length (ys.length-1) y k h'
  | none=>.ok d h)
 | _=>.stuck
theorem FpOk.more {X:Cx}{pj:PnT}{H:Hp}{b:Zj}{p:Zj×Obj}(F:FpOk X pj H b)(ne:p.1≠b):FpOk X (pj++[p]) H b:=by
 refine⟨F.1,F.2.1,F.2.2.1,F.2.2.2.1,F.2.2.2.2.1,λ q hq=>?_⟩
 rcases ZW.mp hq with z|z
 ·exact F.2.2.2.2.2 q (Zao _ z)
 ·rcases ZW.mp z with z|z
  ·exact F.2.2.2.2.2 q (Zx _ z)
  ·rw[ZE.mp z]
   exact ne
theorem FpOk.at {X:Cx}{pj:PnT}{H H':Hp}{b:Zj}(F:FpOk X pj H b)(n:H' b=Zc):FpOk X pj H' b:=⟨n,F.2⟩
theorem Jk8 {xs:List V}{us:List Ze}{i:Nat}{u:Ze}(r:Vals xs us)(e:us[i]?=Za u):∃x,xs[i]?=Za x/\RelV x u:=by
 have hi:=(Zo.mp e).1
 have hl:=r.length
 have hi2:i<xs.length:=by omega
 have hx:xs[i]?=Za xs[i]:=Zb hi2
 obtain⟨u',e',q⟩:=r.get hx
 rw[e] at e'
 cases e'
 exact⟨_,hx,q⟩
section
variable {ce:CeT}{X:Cx}
theorem Now.turned {pj:PnT}{ι:List Zj}{σi:ISt}{h:IH}{σ:L2.St}{H:Hp}{s:Zk}{it:Zj}{h':ZZ}{t':Nat}(N:Now ce X pj ι σi h σ H s)(F:FpOk X pj H it)(k:∀b o,b≠it->s.heap.get? b=Za o->h'.get? b=Za o) :
  Now ce X pj ι σi h σ H { s with heap:=h',toks:=t' }:=⟨N.inv.turned k F.1 F.2.1 F.2.2.2.1 F.2.2.2.2.1 F.2.2.2.2.2,N.rel,N.st⟩
theorem Now.keptH {pj:PnT}{ι:List Zj}{σi:ISt}{h:IH}{σ:L2.St}{H:Hp}{s:Zk}{h':ZZ}{t':Nat}(N:Now ce X pj ι σi h σ H s)(k:∀b o,s.heap.get? b=Za o->h'.get? b=Za o) :
  Now ce X pj ι σi h σ H { s with heap:=h',toks:=t' }:=⟨N.inv.kept k,N.rel,N.st⟩
def CmpK (ce:CeT)(X:Cx)(A:ZG)(op:CmpOp)(gt:IV->IV->Option Bool):Prop :=
 ∀(pj:PnT)(ι:List Zj)(σi:ISt)(h:IH)(σ:L2.St)(H:Hp)(s:Zk)(k kb:IV)(u ub:Ze)(b:Bool)(Q:QvT)(E:QvT),Now ce X pj ι σi h σ H s->RU X.K ι H k u->RU X.K ι H kb ub->gt k kb=Za b ->
  (∀h' t',(∀a o,s.heap.get? a=Za o->h'.get? a=Za o)->Q (.bool b) { s with heap:=h',toks:=t' })->Zt (Z3 X.prog X.w) A (richCompare op u ub) Q E s
theorem Jyx {A:ZG}:CmpK ce X A .Gt gtZ:=λ pj ι σi h σ H s k kb u ub b Q E N r rb e q=>by
 cases k with
 | int a =>
  cases kb with
  | int c =>
   obtain⟨x,rx,ex⟩:=r
   obtain⟨y,ry,ey⟩:=rb
   have ex':x=.int a:=ex
   have ey':y=.int c:=ey
   subst ex'
   subst ey'
   obtain⟨t,rfl⟩:=rx
   obtain⟨t',rfl⟩:=ry
   have e':Za (decide (a>c))=Za b:=e
   cases e'
   have cmp:=CmpOf.ints_gt (prog:=X.prog) (w:=X.w) (A:=A) (P:=λ i v=>∃t,v=.int (if i=0 then a else c) t) (λ i=>if i=0 then a else c) (λ _ _ q=>q)
   have:=cmp 0 1 (.int a t) (.int c t') s Q E ⟨t,by simp⟩ ⟨t',by simp⟩
   simp only[if_true,show ¬(1:Nat)=0 by decide,if_false] at this
   exact this (q s.heap s.toks λ _ _ e=>e)
  | _=>cases e
 | _=>cases e
def XB (ce:CeT)(X:Cx)(A:ZG)(σi:ISt)(σ:L2.St)(pj:PnT)(G:Hp->Prop)(fv:Ze)(mk:IV->IH->Res IV):Prop :=
 ∀(pl:PnT)(s:Zk)(H:Hp)(ι:List Zj)(h:IH)(v:IV)(u:Ze)(Q:QvT),Now ce X (pj++pl) ι σi h σ H s->G H->RU X.K ι H v u->Kont ce X RU (pj++pl) ι σi σ H (mk v h).nx Q (λ _ _=>False) ->
  Zt (Z3 X.prog X.w) A (call fv [u]) Q (λ _ _=>False) s
theorem Jp9 {α γ:Type}{pj:PnT}{ι:List Zj}{σi:ISt}{σ:L2.St}{H:Hp}{R:REL α Ze}{R':REL γ Ze}{r:Res α}{g:α->IH->Res γ}{Q:QvT}{E:QvT}{pl:PnT}{Q1:QvT}
  (K:Kont ce X R' pj ι σi σ H (r.nx.bind g) Q E)
  (step:∀x h1 u s1 H1 ι1,Now ce X (pj++pl) ι1 σi h1 σ H1 s1->Nxt ι H ι1 H1->R X.K ι1 H1 x u->Kont ce X R' pj ι1 σi σ H1 (g x h1) Q E->Q1 u s1):Kont ce X R (pj++pl) ι σi σ H r.nx Q1 (λ _ _=>False):=by
 cases r with
 | ok v h'=>exact λ u s' H' ι' N' n' q=>step v h' u s' H' ι' N' n' q (Kont.mono (r:=g v h') K n')
 | exc n h'=>exact Zf K
 | stuck=>exact Zf K
section
variable {A:ZG}{R:ZdA->Zk->Prop}{Q:QvT}{E:QvT}{pj:PnT}{σi:ISt}{σ:L2.St}{G:Hp->Prop}{fq:Zj}{mk:IV->IH->Res IV}{gt:IV->IV->Option Bool}{i n:Nat}{l I C:Zj}{kw:List (Str×Ze)}
theorem Js5 (hh:A.handled=Zc)(cm:CmpK ce X A.in1 .Gt gt)(ko:XB ce X A.in1 σi σ pj G (.ref fq) mk)(hG:∀H H',Ext H H'->G H->G H')(hR:∀v s',Q v s'->R (.ok (.ret v)) s')(hIC:I≠C) :
  ∀(r j:Nat)(z:Zk)(H:Hp)(ι:List Zj)(h:IH)(b kb:IV)(vb uk:Ze)(c:Nat),n-j=r->0<j->j<=n->Now ce X pj ι σi h σ H z->G H->ι[i]?=Za l->FpOk X pj H I->FpOk X pj H C->z.heap.IsListIter I l j ->
   z.heap.get? C=Za (Zas "list" #[vb,uk] c)->RU X.K ι H b vb->RU X.K ι H kb uk->Kont ce X RU pj ι σi σ H (QN gt mk i n r b kb h) Q E ->
   ZbZ (Z3 X.prog X.w) A (.builtin "max.loop" ⟨[.ref I,.ref fq,.ref C],kw⟩) R z:=by
 intro r
 induction r with
 | zero =>
  intro j z H ι h b kb vb uk c hr h0 hj N g hi fI fC st gC rb rk K
  obtain rfl:j=n:=by omega
  unfold QN at K
  cases eh:h[i]? with
  | none=>rw[eh] at K;exact Zf K
  | some ob =>
   rw[eh] at K
   cases ob with
   | lst ys =>
    dsimp only at K
    split at K
    ·rename_i hlen
     obtain⟨ws,e1,r3⟩:=N.at eh hi
     obtain⟨its,rv2,pl,_⟩:=N.inv.list (SqL.of e1)
     have ne:l≠I:=λ q=>by have:=fI.1;rw[<- q,e1] at this;cases this
     have sz:its.toArray.size=j:=by
      rw[Z2,<-rv2.length,r3.length,hlen]
     have W:=Zdy (prog:=X.prog) (w:=X.w) (A:=A.in1) hh I l ne its.toArray
     refine ZaH Zbb ?_
     rw[ZaE ZL _]
     show Zt _ A.in1 (ZcZ (.ref C)>>=_) _ _ z
     refine Zg (ZbP gC rfl ?_)
     show Zt _ A.in1 (tryCatch (Zcs (.ref I)) _>>=_) _ _ z
     refine Zg (ZaF (W.done z _ _ ⟨by rw[sz];exact st,pl.isList⟩ λ h2 tk keep=>?_))
     have gC2:=keep C _ (λ q=>hIC (ZE.mp q).symm) gC
     have N1:=N.turned (h':=h2) (t':=tk) fI λ b o hb e=>keep b o (λ q=>hb (ZE.mp q)) e
     show Zt _ A.in1 (ZeP C (λ _=>#[])>>=_) _ _ _
     refine Zg ?_
     refine ZbV gC2 rfl (Zg (ZbG (Zv ?_)))
     have N2:=N1.turned (h':=h2.update C (Zat λ _=>#[])) (t':=tk) fC λ b o hb e=>(Zy _ _ (ZT hb)).trans e
     exact hR _ _ (K _ _ _ _ N2 .refl rb)
    ·exact Zf K
   | _=>exact Zf K
 | succ r ih =>
  intro j z H ι h b kb vb uk c hr h0 hj N g hi fI fC st gC rb rk K
  unfold QN at K
  cases eh:h[i]? with
  | none=>rw[eh] at K;exact Zf K
  | some ob =>
   rw[eh] at K
   cases ob with
   | lst ys =>
    dsimp only at K
    split at K
    ·rename_i hlen
     obtain⟨ws,e1,r3⟩:=N.at eh hi
     obtain⟨its,rv2,pl,_⟩:=N.inv.list (SqL.of e1)
     have ne:l≠I:=λ q=>by have:=fI.1;rw[<- q,e1] at this;cases this
     have sz:its.toArray.size=n:=by
      rw[Z2,<-rv2.length,r3.length,hlen]
     have ej:n-(r+1)=j:=by omega
     rw[ej] at K
     have W:=Zdy (prog:=X.prog) (w:=X.w) (A:=A.in1) hh I l ne its.toArray
     refine ZaH Zbb ?_
     rw[ZaE ZL _]
     show Zt _ A.in1 (ZcZ (.ref C)>>=_) _ _ z
     refine Zg (ZbP gC rfl ?_)
     show Zt _ A.in1 (tryCatch (Zcs (.ref I)) _>>=_) _ _ z
     refine Zg (ZaF (W.item j z _ _ (by rw[sz];omega) ⟨st,pl.isList⟩ λ y h2 tk hP st2 keep=>?_))
     have ey:its[j]?=Za y:=by simpa using hP
     obtain⟨x,ex,rx⟩:=Jk8 rv2 ey
     obtain⟨yv,eyv,qy⟩:=r3.get' ex
     rw[eyv] at K
     dsimp only at K
     have gC2:=keep C _ (λ q=>hIC (ZE.mp q).symm) gC
     have N1:=N.turned (h':=h2) (t':=tk) fI λ b o hb e=>keep b o (λ q=>hb (ZE.mp q)) e
     obtain⟨oI,hoI,hoc,hod⟩:=id st2.1
     have N2:=(N1.pinO gC2 fC λ v z=>by cases z).pinO hoI (FpOk.more (p:=(C,Zas "list" #[vb,uk] c)) fI (ZT hIC)) λ v z=>by rw[hod] at z;cases z
     rw[ZF] at N2
     show Zt _ A.in1 (tryCatch (Zdb [y] (call (.ref fq) [y])) _>>=_) _ _ _
     refine Zg (ZaF (Zam (nof (ko _ _ _ _ _ yv y _ N2 g ⟨x,rx,qy⟩ (Jp9 K λ k h3 u s3 H3 ι3 N3 n3 ru K3=>?_)))))
     have pC:=N3.inv.pin (C,Zas "list" #[vb,uk] c) (Zx _ (Zx _ (by simp)))
     have pI:=N3.inv.pin (I,oI) (Zx _ (Zx _ (by simp)))
     have N4:=N3.pins
     have hi3:=n3.at hi
     have g3:=hG _ _ n3.ext g
     have fI3:=FpOk.at (H':=H3) fI pI.2.1
     have fC3:=FpOk.at (H':=H3) fC pC.2.1
     have it3:s3.heap.IsListIter I l (j+1):=⟨oI,pI.1,hoc,hod⟩
     have ry3:RU X.K ι3 H3 yv y:=RU.mono n3 ⟨x,rx,qy⟩
     cases eg:gt k kb with
     | none=>rw[eg] at K3;exact Zf K3
     | some bb =>
      show Zt _ A.in1 (tryCatch (Zdb [y,u] (richCompare .Gt u uk>>=_)) _>>=_) _ _ _
      refine Zg (ZaF (Zam (Zg (cm _ _ _ _ _ _ _ k kb u uk bb _ _ N4 ru (rk.mono n3) eg λ h5 t5 k5=>?_))))
      refine Zg (Zam (Zbo ?_))
      refine Zg (ZbG (Zv ?_))
      have N5:=N4.keptH (h':=h5) (t':=t5) k5
      have gC5:=k5 _ _ pC.1
      obtain⟨oI5,hoI5,hoc5,hod5⟩:=id it3
      have it5:h5.IsListIter I l (j+1):=⟨oI5,k5 _ _ hoI5,hoc5,hod5⟩
      rw[eg] at K3
      cases bb with
      | true =>
       simp only[if_true]
       refine Zg ?_
       refine ZbV gC5 rfl (Zg (ZbG ?_))
       rw[Vy]
       have N6:=N5.turned (h':=h5.update C (Zat λ _=>#[y,u])) (t':=t5) fC3 λ b o hb e=>(Zy _ _ (ZT hb)).trans e
       obtain⟨c2,hc2⟩:∃c2,(h5.update C (Zat λ _=>#[y,u])).get? C=Za (Zas "list" #[y,u] c2):=⟨_,Zc1 gC5 λ _=>#[y,u]⟩
       refine Zv ⟨Zb1 ZL _,ih (j+1) _ H3 ι3 h3 yv k y u c2 (by omega) (by omega) (by omega) N6 g3 hi3 fI3 fC3 ?_ hc2 ry3 ru K3⟩
       exact⟨oI5,(Zy _ _ (ZT hIC)).trans (k5 _ _ hoI5),hoc5,hod5⟩
      | false =>
       simp only[Zac,if_false]
       refine Zg (ZbG ?_)
       rw[Vy]
       exact Zv ⟨Zb1 ZL _,ih (j+1) _ H3 ι3 h3 b kb vb uk c (by omega) (by omega) (by omega) N5 g3 hi3 fI3 fC3 it5 gC5 (rb.mono n3) (rk.mono n3) K3⟩
    ·exact Zf K
   | _=>exact Zf K
theorem Jof (a v d:Ze):argsOk "max" ⟨[a],[(Zar "key",v),(Zar "default",d)]⟩:=by unfold argsOk;kernel_rfl
theorem Js4 {z:Zk}{H:Hp}{ι:List Zj}{h:IH}{dv:IV}{d:Ze}(hh:A.handled=Zc)(cm:CmpK ce X A.in1 .Gt gt)(ko:XB ce X A.in1 σi σ pj G (.ref fq) mk)(hG:∀H H',Ext H H'->G H->G H')(N:Now ce X pj ι σi h σ H z)(g:G H)(hi:ι[i]?=Za l)(rd:RU X.K ι H dv d)
  (K:Kont ce X RU pj ι σi σ H (Xf gt mk i dv h) Q E):Zt (Z3 X.prog X.w) A (call (.builtin "max") [.ref l] [(Zar "key",.ref fq),(Zar "default",d)]) Q E z:=by
 unfold Xf at K
 cases eh:h[i]? with
 | none=>rw[eh] at K;exact Zf K
 | some ob =>
  rw[eh] at K
  cases ob with
  | lst ys =>
   dsimp only at K
   obtain⟨ws,e1,r3⟩:=N.at eh hi
   obtain⟨its,rv2,pl,_⟩:=N.inv.list (SqL.of e1)
   have hl:=pl.isList
   obtain⟨ol,hol,_⟩:=id hl
   have lt:l<z.heap.objs.size:=Z0 hol
   have sz:its.toArray.size=ys.length:=by rw[Z2,<-rv2.length,r3.length]
   refine kmk_tree PySem.F.kind_max PySem.F.plain_max PySem.F.entry_max (Jof _ _ _) ?_
   show Zt _ A.in1 (Zbw "max" ["key","default"] 0 ⟨[],[(Zar "key",.ref fq),(Zar "default",d)]⟩>>=_) _ _ z
   refine Zg (wpAny_of_eq (show Zbw "max" ["key","default"] 0 ⟨[],[(Zar "key",.ref fq),(Zar "default",d)]⟩=pure [Za (.ref fq),Za d] from rfl) ?_)
   refine Zg (Zv ?_)
   refine Zg (ZaZ hl ?_)
   refine Zg (ZdF ?_ (Zaa _))
   rw[Vy]
   have ne:l≠z.heap.objs.size:=Z6 lt
   have W:=Zdy (prog:=X.prog) (w:=X.w) (A:=A.in1) hh z.heap.objs.size l ne its.toArray
   have hS:(z.heap.push { cls:=.type "list_iterator",data:=.fields #[.ref l,.int 0 0] }).objs.size=z.heap.objs.size+1:=Zdz ..
   obtain⟨C,hC⟩:∃C,C=(z.heap.push { cls:=.type "list_iterator",data:=.fields #[.ref l,.int 0 0] }).objs.size:=⟨_,rfl⟩
   have hIC:z.heap.objs.size≠C:=by rw[hC,hS];exact Z6 (ZaV _)
   have old:∀b o,z.heap.get? b=Za o->((z.heap.push { cls:=.type "list_iterator",data:=.fields #[.ref l,.int 0 0] }).push (Zas "list" #[] 0)).get? b=Za o:=λ b o e=>Zi _ (Zi _ e)
   have gI:((z.heap.push { cls:=.type "list_iterator",data:=.fields #[.ref l,.int 0 0] }).push (Zas "list" #[] 0)).get? z.heap.objs.size=Za { cls:=.type "list_iterator",data:=.fields #[.ref l,.int 0 0] }:=Zi _ (Z1 _ rfl)
   have gC:((z.heap.push { cls:=.type "list_iterator",data:=.fields #[.ref l,.int 0 0] }).push (Zas "list" #[] 0)).get? C=Za (Zas "list" #[] 0):=by rw[hC];exact Z1 _ rfl
   rw[<- hC]
   have fI:FpOk X pj H z.heap.objs.size:=N.inv.fpOk (Zr _) (N.inv.hok.fresh (Zr _))
   have fC:FpOk X pj H C:=N.inv.fpOk (by rw[hC,hS];exact ZaC _) (N.inv.hok.fresh (by rw[hC,hS];exact ZaC _))
   have N0:=N.keptH (t':=z.toks) old
   refine Zv ⟨Zb1 ZL _,ZaH Zbb ?_⟩
   rw[ZaE ZL _]
   show Zt _ A.in1 (ZcZ (.ref _)>>=_) _ _ _
   refine Zg (ZbP gC rfl ?_)
   show Zt _ A.in1 (tryCatch (Zcs (.ref z.heap.objs.size)) _>>=_) _ _ _
   cases e0:ys[0]? with
   | none =>
    have h0:ys.length=0:=by
     have:=Zcq.mp e0
     omega
    rw[e0] at K
    refine Zg (ZaF (W.done _ _ _ (by rw[sz,h0];exact⟨⟨_,gI,rfl,rfl⟩,(hl.push _).push _⟩) λ h2 tk keep=>?_))
    have N1:=N0.turned (h':=h2) (t':=tk) fI λ b o hb e=>keep b o (λ q=>hb (ZE.mp q)) e
    show Zt _ A.in1 (rule _>>=_) _ _ _
    refine Zg (Zeb (Zv ?_))
    exact K _ _ _ _ N1 .refl rd
   | some yv =>
    have h0:0<ys.length:=(Zo.mp e0).1
    rw[e0] at K
    dsimp only at K
    refine Zg (ZaF (W.item 0 _ _ _ (by rw[sz];exact h0) ⟨⟨_,gI,rfl,rfl⟩,(hl.push _).push _⟩ λ y h2 tk hP st2 keep=>?_))
    have ey:its[0]?=Za y:=by simpa using hP
    obtain⟨x,ex,rx⟩:=Jk8 rv2 ey
    obtain⟨yv',eyv,qy⟩:=r3.get' ex
    rw[e0] at eyv
    cases eyv
    have gC2:=keep C _ (λ q=>hIC (ZE.mp q).symm) gC
    have N1:=N0.turned (h':=h2) (t':=tk) fI λ b o hb e=>keep b o (λ q=>hb (ZE.mp q)) e
    obtain⟨oI,hoI,hoc,hod⟩:=id st2.1
    have N2:=(N1.pinO gC2 fC λ v z=>by cases z).pinO hoI (FpOk.more (p:=(C,Zas "list" #[] 0)) fI (ZT hIC)) λ v z=>by rw[hod] at z;cases z
    rw[ZF] at N2
    show Zt _ A.in1 (tryCatch (Zdb [y] (call (.ref fq) [y])) _>>=_) _ _ _
    refine Zg (ZaF (Zam (nof (ko _ _ _ _ _ yv y _ N2 g ⟨x,rx,qy⟩ (Jp9 K λ k h3 u s3 H3 ι3 N3 n3 ru K3=>?_)))))
    have pC:=N3.inv.pin (C,Zas "list" #[] 0) (Zx _ (Zx _ (by simp)))
    have pI:=N3.inv.pin (z.heap.objs.size,oI) (Zx _ (Zx _ (by simp)))
    have N4:=N3.pins
    have fI3:=FpOk.at (H':=H3) fI pI.2.1
    have fC3:=FpOk.at (H':=H3) fC pC.2.1
    have ry3:RU X.K ι3 H3 yv y:=RU.mono n3 ⟨x,rx,qy⟩
    show Zt _ A.in1 (ZeP C (λ _=>#[y,u])>>=_) _ _ _
    refine Zg ?_
    refine ZbV pC.1 rfl ?_
    rw[Vy]
    have N6:=N4.turned (h':=s3.heap.update C (Zat λ _=>#[y,u])) (t':=s3.toks) fC3 λ b o hb e=>(Zy _ _ (ZT hb)).trans e
    obtain⟨c2,hc2⟩:∃c2,(s3.heap.update C (Zat λ _=>#[y,u])).get? C=Za (Zas "list" #[y,u] c2):=⟨_,Zc1 pC.1 λ _=>#[y,u]⟩
    refine Zv ⟨Zb1 ZL _,Js5 hh cm ko hG (λ v s' q=>q) hIC (ys.length-1) 1 _ H3 ι3 h3 yv k y u c2 rfl (by omega) (by omega) N6 (hG _ _ n3.ext g) (n3.at hi) fI3 fC3 ?_ hc2 ry3 ru K3⟩
    exact⟨oI,(Zy _ _ (ZT hIC)).trans pI.1,hoc,hod⟩
  | _=>exact Zf K
end
theorem Kont.more {α β:Type}{R:REL α β}{pj pl:PnT}{ι:List Zj}{σi:ISt}{σ:L2.St}{H:Hp}{r:Res α}{Q:β->Zk->Prop}{E:QvT}(K:Kont ce X R pj ι σi σ H r Q E):Kont ce X R (pj++pl) ι σi σ H r Q E:=by
 cases r with
 | ok v h'=>exact λ u s' H' ι' N n q=>K u s' H' ι' N.pins n q
 | exc m h'=>exact λ pl' a s' H' ι' N n q=>K (pl++pl') a s' H' ι' (by rw[<- ZF];exact N) n q
 | stuck=>exact K
def XO (gt:IV->IV->Option Bool)(q:Str)(j:Nat)(js:List Nat)(aa:A1)(m md:E1):E1:=λ σ h=>(aa σ h).bind λ xs h1=>match h1[j]? with
 | some (.tab q')=>if q'=q then(md σ h1).bind λ d h2=>(match xs with
  | [.ref i]=>Xf gt (λ v h'=>m (Za v::js.map λ j=>(σ[j]?).join) h') i d h2
  | _=>.stuck) else .stuck
 | _=>.stuck
theorem Jl2 {params:ZcB}{x:Str}{env:Env}(hx:QO params=Za x):defaultsOf params env=([],[]):=by
 unfold QO at hx
 split at hx
 ·rfl
 ·cases hx
theorem Jzl {k:Nat}{q x:Str}{caps:List Str}{js:List Nat}{j:Nat}{a body de:Expr}{aa:A1}{m md:E1}{params:ZcB}{scope:ZaY}{p lp pos kp kp2:Pos}(hg:Gl X "max")(hm:X.mg "max"=Zc)(ha:PAi ce X [a] aa)(hd:PEi ce X de md)(hs:Z9 [a] X.env=[(Zh,ZaQ a X.env)])
  (hr:Room (k+2) X.A)(hcd:W.codeIn X.K X.env.code q=Zd)(hq:X.env.qual=q++".<locals>.")(B:Qs X.mg X.base)(hx:QO params=Za x)(S:LamSc X.N X.env.scope.names x caps js scope)
  (hb:∀f cd s' H',PEi ce (cxL X X.A.in1 (x::caps) q scope f cd s' H') body m) :
  PEi ce X (.Call (.Name "max" p) [a] [⟨Za "key",.Lambda params body scope lp,kp⟩,⟨Za "default",de,kp2⟩] pos) (XO gtZ q j js aa m md):=λ pj s σ H ι σi h Q E N K=>by
 have hcl:Zdx scope X.env=pure (clOf X.env.cells scope.names []):=Jbn λ y hm hk=>N.inv.ok.has y.1 (.inl (S.free y hm hk))
 refine ZQ (Qf N.inv hg hm rfl ?_)
 refine callWith_kw ?_ (by rw[hs];rfl) (by rw[hs];rfl) rfl rfl
 refine(ha pos).run N K λ xs h1 us s1 H1 ι1 N1 n1 r1 K1=>?_
 cases ej:h1[j]? with
 | none=>rw[ej] at K1;exact Zf K1
 | some ob =>
  rw[ej] at K1
  cases ob with
  | tab q' =>
   dsimp only at K1
   split at K1
   ·rename_i eq
    subst eq
    refine Zb9 (Zg (Jl3 N1 ej hcd hq (Jl2 hx) hcl B λ f c pm ctv s2 H2 N2 n2 LC=>Zg (Zbz (Zv ?_))))
    refine Zb9 (Zg (PX.run hd N2 (Kont.more (Kont.mono K1 n2)) λ d h3 du s3 H3 ι3 N3 n3 r3 K3=>Zg (Zbz (Zv (Zcv ?_)))))
    obtain⟨vs,rv,qs⟩:=r1.mono (n2.trans n3)
    match xs,K3 with
    | [.ref i],K3 =>
     obtain⟨w,rfl,ad,rfl,hav⟩:=qs.one_of
     obtain⟨u,rfl,ru⟩:=Qk rv
     cases ru
     refine Js4 (G:=λ H=>Q7 H q' (.ref c)) (mk:=λ v h'=>m (Za v::js.map λ j=>(σi[j]?).join) h') hr.hd Jyx ?_ (λ H H' e g=>g.mono e.frzs) N3 (LC.mono n3.ext.frzs) hav r3 ?_
     ·intro pl s4 H4 ι4 h4 v u Q4 N4 g4 ru4 K4
      have pf:=N4.inv.pin (f,lamO q' params body scope (clOf X.env.cells scope.names []) pm ctv c) (Zx _ (Zao _ (Zx _ (ZE.mpr rfl))))
      exact Jp0 (A:=X.A.in1) N.inv.ok.frames hr.in1 N4 pf.1 g4 hx S (hb f (.ref c)) ru4 K4
     ·exact K3
    | [],K3=>exact Zf K3
    | [.non],K3=>exact Zf K3
    | [.bl _],K3=>exact Zf K3
    | [.int _],K3=>exact Zf K3
    | [.str _],K3=>exact Zf K3
    | [.tup _],K3=>exact Zf K3
    | [.rol _],K3=>exact Zf K3
    | x::_::_,K3=>cases x<;>exact Zf K3
   ·exact Zf K1
  | _=>exact Zf K1
end
def bmV:List Ze:=[.type "ValueError",.type "Exception",.type "BaseException",.type "object"]
def XCls (K:W.Frag)(C:Zj):Prop:=W.excIn K C bmV "ValueError.__new__"=Zd
theorem XCls.obj {K:W.Frag}{C:Zj}{h:ZZ}(x:XCls K C)(I:K.In h):∃bm N nm q bs hdct sn sub ab col dd k0 k1 k2 k3 k5 mN,h.get? C=Za (Zd6 nm q C N bs bm hdct sn sub ab col dd k0 k1 k2 k3 k5 "ValueError.__new__")/\h.Ns N mN/\mN "__init__"=Zc/\OwnTail h bmV bm:=by
 unfold XCls W.excIn at x
 split at x
 case h_2=>cases x
 rename_i dd cd sl ho
 split at x
 case h_2=>cases x
 rename_i D bm k0 k1 k2 k3 n k5 em es
 simp only[Zl,beq_iff_eq,ZaO] at x
 obtain⟨⟨⟨⟨⟨e1,e2⟩,e3⟩,e4⟩,e5⟩,e6⟩:=x
 subst e1 e2
 obtain⟨nm,bs,mro,N,qn,hd,sn,sub,ab,col,del⟩:=cd
 have em:mro=.ref D::bm:=em
 have e3:del=Zh:=e3
 subst em e3
 have es:sl=#[k0,k1,k2,k3,Za (.builtin "ValueError.__new__"),k5]:=by
  rw[<- Zde (xs:=sl),es]
 subst es
 exact⟨bm,N,nm,qn,bs,hd,sn,sub,ab,col,dd,k0,k1,k2,k3,k5,_,I _ _ ho,.of_isNs (W.isNs_of_in I e5),W.nsMap_none_of_in I e5 e6,W.tail_of_in I e4⟩
def JT (c:Str)(a:A1):S1:=λ σ h=>rS σ (a σ h) λ vs h1=>if vs.length<=sizeLine then .exc h1.length σ (h1++[.exc c []]) else .stuck
section
variable {ce:CeT}{X:Cx}{C:Zj}{x c:Str}{np cpos pos:Pos}{e:Expr}{es:List Expr}{ma:A1}
theorem Jxj (hc:X.calm=Zd)(hg:Gl X x)(hm:X.mg x=Za (.ref C))(hC:W.nsIn X.K Zm c=Za (Za (.ref C)))(xc:XCls X.K C)(ha:PAi ce X (e::es) ma)(hdb:(x==("__debug__":Str))=Zh:=by decide)
  (he:Z9 (e::es) X.env=(Zh,ZaQ e X.env)::Z9 es X.env:=by rfl)(hpl:(ZaX cpos (Z9 es X.env)).any (·.1)=Zh:=by rfl):PS1 ce X (.Raise (Za (.Call (.Name x np) (e::es) [] cpos)) Zc pos) (JT c ma):=by
 intro pj s σ H ι σi h Q E N K
 obtain⟨bm,Na,nm,q,bs,hdct,sn,sub,ab,col,dd,k0,k1,k2,k3,k5,mN,hCo,hN,hni,T⟩:=xc.obj N.inv.mod.kin
 have hpa:(ZaX cpos (Z9 (e::es) X.env)).any (·.1)=Zh:=by
  rw[he]
  show(Zh||(ZaX cpos (Z9 es X.env)).any (·.1))=Zh
  rw[hpl]
  rfl
 refine wpAny_Raise_call_subU (mN:=mN) (nm:=nm) (q:=q) (N:=Na) (bs:=bs) (hdct:=hdct) (sn:=sn) (sub:=sub) (ab:=ab) (col:=col) (dd:=dd) (k0:=k0) (k1:=k1) (k2:=k2) (k3:=k3) (k5:=k5) F.excBase_ValueError (by decide) F.excBase_ValueError (T.hasType (by decide)) (N.inv.ok.hd hc) hpa hni (QP N.inv hg hm ⟨rfl,?_⟩ hdb)
 have hs:=ha cpos
 rw[he] at hs ⊢
 refine Calls.evalArgs_plain (krun hs N K λ vs h1 us s1 H1 ι1 N1 n1 r1 K1=>?_)
 change JD ce X pj ι1 H1 (if vs.length<=sizeLine then _ else _) Q E at K1
 split at K1
 case isFalse=>exact K1.elim
 rename_i hz
 have kb:=N1.inv.bk
 have hl:us.length=vs.length:=by
  obtain⟨ws,rv,qv⟩:=r1
  rw[<- rv.length,qv.length]
 refine⟨rfl,by show us.length<=_;omega,kb _ _ hCo,hN.keeps kb,T.keeps kb,λ h' a M=>?_⟩
 obtain⟨t,hat,_,_⟩:=M.there
 have hf:H1 a=Zc:=by
  cases z:H1 a with
  | none=>rfl
  | some u =>
   obtain⟨o,z'⟩:=Jqb (N1.inv.hok a u z)
   rw[M.new] at z'
   cases z'
 obtain⟨R2,n2⟩:=N1.rel.alloc (o:=ExF a C .none Zc) (io:=.exc c []) hf ⟨C,.none,Zc,.inl ⟨rfl,rfl⟩,hC,Jw,.inl rfl⟩
 have kk:∀b u,s1.heap.get? b=Za u->h'.get? b=Za u:=λ b u q=>M.keeps b u q
 have up:∀{b:Zj}{u:HO},H1 b=Za u->upd H1 a (ExF a C .none Zc) b=Za u:=λ {b u} q=>by
  rw[Jl (λ z=>by subst z;rw[hf] at q;cases q)]
  exact q
 have un:Un X.fs [] H1 (upd H1 a (ExF a C .none Zc)) s1.heap h' :=
  ⟨λ b o q _ _ _=>kk b o q,λ b o q _ _ _=>⟨o.slots,kk b o q⟩,λ b o q n _=>by rw[Jl (λ z=>by subst z;rw[M.new] at q;cases q)];exact n,λ b o q _=>⟨o,kk b o q⟩,λ b xs q=>up q,λ b o u q=>up q,λ b ps q=>⟨#[],by rw[up q];simp⟩⟩
 have ok:HOk X.prog X.w (upd H1 a (ExF a C .none Zc)) h':=λ b u q=>by
  by_cases z:b=a
  ·subst z
   rw[Jw] at q
   cases q
   exact ExF.ok hat rfl rfl rfl rfl rfl
  ·rw[Jl z] at q
   exact(N1.inv.hok b u q).stay (λ d v _ p=>kk d v p) (λ d p=>up p) λ d xs p=>up p
 have I2:Inv X pj σ (upd H1 a (ExF a C .none Zc)) { s1 with heap:=h' }:=N1.inv.un (t':=s1.toks) un ok
 refine K1 [] a _ σ _ _ ⟨by simpa using I2,R2,N1.st.mono n2⟩ n2 ?_ _ (.inl rfl)
 rw[<- N1.rel.len,Z4 (Zr _)]
 simp
end
abbrev Jj (X:Cx)(a:Zj):Cx:={ X with A:=X.A.mark (Za (.ref a)),calm:=Zh }
section
variable {ce:CeT}{X:Cx}{a C:Zj}{pj:PnT}{σ:L2.St}{H:Hp}{s:Zk}{ι:List Zj}{σi:ISt}{h:IH}{n:Nat}{c:Str}{fs:List (Str×IV)}{tv:Ze}
theorem XW (I:Inv X pj σ H s)(a:Zj):Inv (Jj X a) pj σ H s :=
 ⟨⟨I.ok.mod,I.ok.kind,I.ok.glob,I.ok.blt,I.ok.above,I.ok.inj,I.ok.has,I.ok.cab,nofun,I.ok.frames,I.ok.stk,I.ok.exf,I.ok.bs,I.ok.bsz,I.ok.noex,I.ok.exfs,I.ok.funs,I.ok.frf⟩,I.os,I.bare,I.base,I.loc,I.cell,I.free,I.freeC,I.pin,I.hok,I.len⟩
theorem Je0 (ok:X.Ok)(I:Inv (Jj X a) pj σ H s):Inv X pj σ H s :=
 ⟨ok,I.os,I.bare,I.base,I.loc,I.cell,I.free,I.freeC,I.pin,I.hok,I.len⟩
theorem _root_.L2.Inv.fewer {pj':PnT}(I:Inv X pj σ H s)(k:∀p∈X.pn++pj',p∈X.pn++pj):Inv X pj' σ H s :=
 ⟨I.ok,I.os,I.bare,I.base,I.loc,I.cell,I.free,I.freeC,λ p hp=>I.pin p (k p hp),I.hok,I.len⟩
theorem Jtc {d:Option Zj}{T:Zj}{oT:Obj}{h':ZZ}(N:Now ce X pj ι σi h σ H s)(hj:h[n]?=Za (.exc c fs))(hi:ι[n]?=Za a)(hC:W.nsIn X.K Zm c=Za (Za (.ref C)))(ha:H a=Za (ExF a C tv d))(p:Past X H s.heap a C d T oT h') :
  Now ce X pj ι σi h σ (upd (upd H T (.frz oT (.own 0))) a (ExF a C (.ref T) d)) { s with heap:=h' }/\Nxt ι H ι (upd (upd H T (.frz oT (.own 0))) a (ExF a C (.ref T) d)):=by
 obtain⟨C',tv',d',fe,_,ha',_⟩:=Vm N.rel hj hi
 rw[Jr9 N.inv.hok ha' ha] at fe
 obtain⟨R4,n4⟩:=N.rel.grow (o:=.frz oT (.own 0)) p.new
 have ha4:upd H T (.frz oT (.own 0)) a=Za (ExF a C tv d):=by rw[Jl (ZT p.ne)];exact ha
 obtain⟨R5,n5⟩:=R4.write hi ha4 (by rw[ha4];trivial) (o:=ExF a C (.ref T) d) (io:=.exc c fs) ⟨C,.ref T,d,fe.mono p.un.frzs,hC,Jw,.inr ⟨T,oT,_,rfl,by rw[Jl p.ne,Jw],p.fld.choose_spec⟩⟩
 rw[Jij hj] at R5
 have I:=N.inv.call (g':=s.gens) (t':=s.toks) (d':=s.drawn) (ch:=[]) p.un p.hok N.inv.bare λ b z=>absurd z (by simp)
 exact⟨⟨I,R5,N.st.mono (n4.trans n5)⟩,n4.trans n5⟩
theorem Jga {d:Option Zj}{M:ZeB}{A:ZG}{Q:Unit->Zk->Prop}{E:QvT}(ok:HOk X.prog X.w H s.heap)(ha:H a=Za (ExF a C tv d))(ht:TvOk H tv)(k:∀h',(∀b o,s.heap.get? b=Za o->h'.get? b=Za o)->Q () { s with heap:=h' }) :
  Zt M A (ZcY (.ref a) Zc) Q E s:=by
 obtain⟨oe,vs,e1,e2,e3,e4,_⟩:=ExF.get ok ha
 unfold ZcY
 refine Zg (Zb0 e1 e3 e4 ?_)
 rcases ht with rfl|⟨T,oT,ts,rfl,q1,q2,q3⟩
 ·rw[if_neg (by decide)]
  exact Zv (k s.heap λ _ _ q=>q)
 ·have gT:s.heap.get? T=Za oT:=(ok T _ q1).1
  rw[if_pos (by simp)]
  refine ZbN gT q2 (ZaD.mp q3).1 (k _ λ b o q=>?_)
  by_cases z:b=T
  ·subst z
   rw[gT] at q
   cases q
   exact Jk4 gT q2 q3
  ·rw[Zy _ _ (ZT z)]
   exact q
theorem Jse {M:ZeB}{A:ZG}{E:QvT}{Q:Unit->Zk->Prop}{i:Nat}{x:Str}{pos:Pos}(I:Inv X pj σ H s)(hN:X.N.Nodup)(hi:X.N[i]?=Za x)(hx:X.env.kindOf x=Za .local)(k:∀s',Inv X pj (σ.set i Zc) H s'->Q () s') :
  Zt M A (do bindName X.env x .none;unbindBehindTheSuite X.env x pos) Q E s:=by
 obtain⟨m,hn,hl⟩:=id I.loc
 have hcls:(X.env.scope.kind==.class||(X.env.scope.kind==.module&&X.env.locals != X.env.globals))=Zh:=by rw[I.ok.kind];rfl
 have cne:=I.cne
 refine wpAny_nameGoes_keeps hx hn hcls λ h' v hn' hs=>?_
 have up:∀{b:Zj}{o:Obj},X.s₀.heap.get? b=Za o->b≠X.env.locals:=λ e=>Z6 (ZJ (Z0 e) I.ok.above)
 refine k _ ⟨I.ok,I.os,I.bare,⟨λ b o e nn hb hx=>?_,λ b o e nn hb hx=>?_,I.base.free,λ b o e hx=>?_,I.base.tups,I.base.frzs,I.base.tbls⟩,⟨_,hn',λ j y w e1 e2 e3=>?_⟩,λ y cc e=>?_,I.free,I.freeC,λ p hp=>?_,λ b ob e=>?_,by rw[Zdj];exact I.len⟩
 ·exact(hs.2 b (up e)).trans (I.base.keep b o e nn hb hx)
 ·obtain⟨sl,e1⟩:=I.base.slot b o e nn hb hx
  exact⟨sl,(hs.2 b (up e)).trans e1⟩
 ·obtain⟨o',e1⟩:=I.base.there b o e hx
  exact⟨o',(hs.2 b (up e)).trans e1⟩
 ·by_cases z:j=i
  ·subst z
   have hj:j<σ.length:=by rw[I.len];exact(Zo.mp hi).1
   rw[ZU hj] at e2
   cases e2
  ·rw[ZX (ZT z)] at e2
   obtain⟨u,r,q⟩:=hl j y w e1 e2 e3
   refine⟨u,r,?_⟩
   rcases q with⟨q1,q2⟩|⟨q1,cc,q2,q3⟩
   ·refine .inl ⟨q1,?_⟩
    show(if y=x then v else m y)=Za u
    rw[if_neg (show ¬y=x from λ z2=>z (Jh9 hN e1 (by rw[z2];exact hi)))]
    exact q2
   ·exact .inr ⟨q1,cc,q2,q3.sameBut hs (cne y cc q2)⟩
 ·obtain⟨w',z⟩:=I.cell y cc e
  exact⟨w',z.sameBut hs (cne y cc e)⟩
 ·obtain⟨e,nn,ne,nf,d⟩:=I.pin p hp
  exact⟨(hs.2 p.1 ne).trans e,nn,ne,nf,d⟩
 ·have nb:∀{d:Zj}{u:HO},H d=Za u->d≠X.env.locals:=λ q z=>by rw[z,I.free] at q;cases q
  refine(I.hok b ob e).stay (λ d w' hc q=>(hs.2 d ?_).trans q) (λ _ q=>q) λ _ _ q=>q
  rcases hc with rfl|hc
  ·exact nb e
  ·exact nb hc
end
theorem RSt.unset {K:W.Frag}{ι:List Zj}{H:Hp}{σi:ISt}{σ:L2.St}(r:RSt K ι H σi σ)(i:Nat):RSt K ι H (σi.set i Zc) (σ.set i Zc):=by
 refine⟨by simp[r.len],λ j w e=>?_⟩
 by_cases z:j=i
 ·subst z
  have hl:j<σi.length:=by
   have:=(Zo.mp e).1
   simpa using this
  rw[ZU hl] at e
  cases e
 ·rw[ZX (ZT z)] at e
  obtain⟨u,e1,q1⟩:=r.at_ j w e
  exact⟨u,by rw[ZX (ZT z)];exact e1,q1⟩
abbrev HdI:=(Str->Option Bool)×Option Nat×S1
def VI (sl:Option Nat)(x:Option IV)(σ:ISt):ISt:=match sl with
 | some i=>σ.set i x
 | none=>σ
def SRes.drop (sl:Option Nat)(r:SRes):SRes:=match r with
 | .next σ h=>.next (VI sl Zc σ) h
 | .brk σ h=>.brk (VI sl Zc σ) h
 | .cont σ h=>.cont (VI sl Zc σ) h
 | .ret v h=>.ret v h
 | _=>.stuck
def Vv:List HdI->Str->Nat->S1
 | [],_,_=>λ _ _=>.stuck
 | q::r,c,n=>λ σ h=>match q.1 c with
  | some Zd=>(q.2.2 (VI q.2.1 (Za (.ref n)) σ) h).drop q.2.1
  | some Zh=>Vv r c n σ h
  | none=>.stuck
def sTry (b:S1)(hs:List HdI):S1:=λ σ h=>match b σ h with
 | .exc n σ1 h1=>(match h1[n]? with
  | some (.exc c _)=>Vv hs c n σ1 h1
  | _=>.stuck)
 | r=>r
def PSH (ce:CeT)(X:Cx)(a:Zj)(sl:Option Nat)(suite:List Zb2)(m:S1):Prop :=
 ∀(pj:PnT)(s:Zk)(σ:L2.St)(H:Hp)(ι:List Zj)(σi:ISt)(h:IH)(Q:Flow->Zk->Prop)(E:QvT)(n:Nat)(c:Str)(fs:List (Str×IV)),X.Ok->Now ce (Jj X a) pj ι σi h σ H s->h[n]?=Za (.exc c fs)->ι[n]?=Za a->(∀i,sl=Za i->i<σi.length->σi[i]?=Za (Za (.ref n))) ->
  JD ce (Jj X a) pj ι H (m σi h) Q E->Zt (Z3 X.prog X.w) (Jj X a).A (execs suite X.env) Q E s
theorem PS2.h {ce:CeT}{X:Cx}{a:Zj}{sl:Option Nat}{suite:List Zb2}{m:S1}(p:PS2 ce (Jj X a) suite m):PSH ce X a sl suite m:=λ pj s σ H ι σi h Q E _ _ _ _ N _ _ _ K=>p pj s σ H ι σi h Q E N K
structure HdOk (ce:CeT)(X:Cx)(t:Expr)(nm:Option Str)(suite:List Zb2)(f:Str->Option Bool)(sl:Option Nat)(m:S1):Prop where
 test:∀(a:Zj)(c:Str)(C:Zj)(b:Bool)(pj:PnT)(σ:L2.St)(H:Hp)(s:Zk)(Q:Bool->Zk->Prop)(E:QvT),f c=Za b->W.nsIn X.K Zm c=Za (Za (.ref C))->Inv (Jj X a) pj σ H s->(∃oe,s.heap.get? a=Za oe/\oe.cls=.ref C)->Q b s ->
  Zt (Z3 X.prog X.w) (Jj X a).A (ZaQ t X.env) (λ v s₁=>Zt (Z3 X.prog X.w) (Jj X a).A (excMatches (.ref a) v) Q E s₁) E s
 nm:(nm=Zc/\sl=Zc)∨∃n i,nm=Za n/\sl=Za i/\X.N[i]?=Za n/\X.env.kindOf n=Za .local
 run:∀a,PSH ce X a sl suite m
inductive HdsOk (ce:CeT)(X:Cx):List Zbk->List HdI->Prop
 | nil:HdsOk ce X [] []
 | cons {t:Expr}{nm:Option Str}{b₀:Zb2}{suite:List Zb2}{pos:Pos}{f:Str->Option Bool}{sl:Option Nat}{m:S1}{hs:List Zbk}{ms:List HdI}:HdOk ce X t nm (b₀::suite) f sl m->HdsOk ce X hs ms->HdsOk ce X (.ExceptHandler (Za t) nm (b₀::suite) pos::hs) ((f,sl,m)::ms)
section
variable {ce:CeT}{X:Cx}
theorem Jpk (hN:X.N.Nodup){hs:List Zbk}{ms:List HdI}(O:HdsOk ce X hs ms){a:Zj}{pj:PnT}{σ:L2.St}{H:Hp}{s:Zk}{ι:List Zj}{σi:ISt}{h:IH}{n:Nat}{c:Str}{fs:List (Str×IV)}{Q:Flow->Zk->Prop}{E:QvT}
  (N:Now ce X pj ι σi h σ H s)(hj:h[n]?=Za (.exc c fs))(hi:ι[n]?=Za a)(K:JD ce X pj ι H (Vv ms c n σi h) Q E):Zt (Z3 X.prog X.w) X.A (handleBy (.ref a) X.env hs) Q E s:=by
 obtain⟨C,tv,d,fe,hC,ha,ht⟩:=Vm N.rel hj hi
 obtain⟨oe,vs,e1,e2,_⟩:=ExF.get N.inv.hok ha
 induction O with
 | nil=>exact Zf K
 | @cons t nm b₀ suite pos f sl m hs ms o O ih =>
  unfold Vv at K
  dsimp only at K
  cases hb:f c with
  | none=>rw[hb] at K;exact Zf K
  | some b =>
   rw[hb] at K
   refine wpAny_handleBy_cons (codeAny_handlers_test (o.test a c C b pj σ H s _ _ hb hC (XW N.inv a) ⟨oe,e1,e2⟩ ?_)) (by intro q;cases q)
   cases b with
   | false=>exact ih K
   | true =>
    dsimp only at K
    rcases o.nm with⟨rfl,rfl⟩|⟨x,i,rfl,rfl,hx,hk⟩
    ·have K:JD ce X pj ι H ((m σi h).drop Zc) Q E:=K
     refine codeAny_handlers_suite (Jga N.inv.hok ha ht λ h' kp=>?_)
     have N2:Now ce (Jj X a) pj ι σi h σ H { s with heap:=h' }:=⟨XW (N.inv.kept (t':=s.toks) kp) a,N.rel,N.st⟩
     refine o.run a pj _ σ H ι σi h _ _ n c fs N.inv.ok N2 hj hi (λ i z=>by cases z) ?_
     have un:∀{pj:PnT}{ι:List Zj}{σi:ISt}{h:IH}{σ:L2.St}{H:Hp}{s:Zk},Now ce (Jj X a) pj ι σi h σ H s->Now ce X pj ι σi h σ H s:=λ q=>⟨Je0 N.inv.ok q.inv,q.rel,q.st⟩
     cases em:m σi h with
     | next σ2 h2=>rw[em] at K;exact λ s3 σ3 H3 ι3 N3 n3=>K s3 σ3 H3 ι3 (un N3) n3
     | brk σ2 h2=>rw[em] at K;exact λ s3 σ3 H3 ι3 N3 n3=>K s3 σ3 H3 ι3 (un N3) n3
     | cont σ2 h2=>rw[em] at K;exact λ s3 σ3 H3 ι3 N3 n3=>K s3 σ3 H3 ι3 (un N3) n3
     | ret v h2=>rw[em] at K;exact λ u s3 σ2 σ3 H3 ι3 N3 n3 r3=>K u s3 σ2 σ3 H3 ι3 (un N3) n3 r3
     | exc k σ2 h2=>rw[em] at K;exact Zf K
     | stuck=>rw[em] at K;exact Zf K
    ·have K:JD ce X pj ι H ((m (σi.set i (Za (.ref n))) h).drop (Za i)) Q E:=K
     refine codeAny_handlers_suite_as (Jga N.inv.hok ha ht λ h' kp=>?_)
     have I2:Inv (Jj X a) pj σ H { s with heap:=h' }:=XW (N.inv.kept (t':=s.toks) kp) a
     refine Yc (X:=Jj X a) (v:=V.ref a) I2 hN hx (.inl hk) rfl (λ s3 I3=>?_) (.inr hk)
     have N3:Now ce (Jj X a) pj ι (σi.set i (Za (.ref n))) h (σ.set i (Za (V.ref a))) H s3:=⟨I3,N.rel,N.st.set i ⟨a,rfl,hi⟩⟩
     refine o.run a pj _ _ H ι _ h _ _ n c fs N.inv.ok N3 hj hi (λ j z l=>by cases z;exact ZU (by simpa using l)) ?_
     have fin:∀{ι3:List Zj}{σ2:ISt}{h2:IH}{σ3:L2.St}{H3:Hp}{s3:Zk}{W:Unit->Zk->Prop},Now ce (Jj X a) pj ι3 σ2 h2 σ3 H3 s3->(∀s4,Now ce X pj ι3 (σ2.set i Zc) h2 (σ3.set i Zc) H3 s4->W () s4)->Zt (Z3 X.prog X.w) X.A (do bindName X.env x .none;unbindBehindTheSuite X.env x pos) W E s3:=λ q k =>
      Jse (Je0 N.inv.ok q.inv) hN hx hk λ s4 I4=>k s4 ⟨I4,q.rel,q.st.unset i⟩
     cases em:m (σi.set i (Za (.ref n))) h with
     | next σ2 h2=>rw[em] at K;exact λ s3 σ3 H3 ι3 N3 n3=>fin N3 λ s4 N4=>K s4 _ H3 ι3 N4 n3
     | brk σ2 h2=>rw[em] at K;exact λ s3 σ3 H3 ι3 N3 n3=>fin N3 λ s4 N4=>K s4 _ H3 ι3 N4 n3
     | cont σ2 h2=>rw[em] at K;exact λ s3 σ3 H3 ι3 N3 n3=>fin N3 λ s4 N4=>K s4 _ H3 ι3 N4 n3
     | ret v h2=>rw[em] at K;exact λ u s3 σ2 σ3 H3 ι3 N3 n3 r3=>fin N3 λ s4 N4=>K u s4 _ _ H3 ι3 N4 n3 r3
     | exc k σ2 h2=>rw[em] at K;exact Zf K
     | stuck=>rw[em] at K;exact Zf K
theorem J2v {body:List Zb2}{mb:S1}{h₀:Zbk}{hs:List Zbk}{ms:List HdI}{pos:Pos}(hN:X.N.Nodup)(hk:X.stack=X.env::X.outer)(hf:X.env.frame=Za X.env.locals)(hb:PS2 ce X body mb)(O:HdsOk ce X (h₀::hs) ms):PS1 ce X (.Try body (h₀::hs) [] [] pos) (sTry mb ms):=by
 intro pj s σ H ι σi h Q E N K
 unfold sTry at K
 refine wpAny_Try_except (hb pj s σ H ι σi h _ _ N ?_)
 cases e:mb σi h with
 | next σ2 h2=>rw[e] at K;exact λ s3 σ3 H3 ι3 N3 n3=>ZbU (K s3 σ3 H3 ι3 N3 n3)
 | brk σ2 h2=>rw[e] at K;exact K
 | cont σ2 h2=>rw[e] at K;exact K
 | ret v h2=>rw[e] at K;exact K
 | stuck=>rw[e] at K;exact K
 | exc n σ2 h2 =>
  rw[e] at K
  dsimp only at K
  cases hj:h2[n]? with
  | none=>rw[hj] at K;exact Zf K
  | some ob =>
   cases ob with
   | exc c fs =>
    rw[hj] at K
    intro pl a s3 σ3 H3 ι3 N3 n3 hi s4 fl
    have N3:Now ce X pj ι3 σ2 h2 σ3 H3 s3:=⟨N3.inv.fewer λ p hp=>ZW.mpr ((ZW.mp hp).imp_right λ z=>Zao _ z),N3.rel,N3.st⟩
    obtain⟨C,tv,d,fe,hC,ha,ht⟩:=Vm N3.rel hj hi
    refine Jl8 N3.inv fl hk hf ha ht λ T oT h' p=>?_
    obtain⟨N4,n4⟩:=Jtc N3 hj hi hC ha p
    exact Jpk hN O N4 hj hi (JD.mono (r:=Vv ms c n σ2 h2) K (n3.trans n4))
   | _=>rw[hj] at K;exact Zf K
structure BasK (K:W.Frag)(C:Zj):Prop where
 sp:W.specialIn K (.ref C) "__getattribute__"=Za (Za (.builtin "type.__getattribute__"))
 rd:W.readsIn K C (.type "type")=Zd
 fc:∃fa,W.findIn K (.ref C) "__init__"=Za (Za (.ref fa))/\W.findCls K (.ref C) (.type "type") "__init__"=Za (.val (.ref fa))/\W.keepIn K (.ref fa)=Zd
variable {k:Nat}{fa C:Zj}{fd:Zap}{ps:List Str}{f:List IV->IH->Res IV}{dvs:List IV}{ds:List Ze}{x:Str}{p pos apos:Pos}{e:Expr}{es:List Expr}{ma:A1}{pl:Sem Bool}
end
section
variable {prog:ZA}{w:ZM}{A:ZG}{E:QvT}{s:Zk}{x y:Str}{t u:Tok}{Q:QvT}
open Builtin Builtin.Str in
end
section
variable {ce:CeT}{X:Cx}
end
theorem Jh1:entryFor table "proto.unchain"=Za ZcO.«proto.unchain» :=entryFor_of_tree (by kernel_rfl)
section
variable {prog:ZA}{w:ZM}{A:ZG}{E:QvT}{s:Zk}
theorem Jqf {α:Type}{x e:Zj}{ox oe:Obj}{vx ve:Array Ze}{Q:α->Zk->Prop}(hh:A.handled=Za (.ref x))(gx:s.heap.get? x=Za ox)(dx:ox.data=.fields vx)(x2:vx[2]?=Za .none)(ge:s.heap.get? e=Za oe)(de:oe.data=.fields ve)(sz:2<ve.size)(ne:x≠e)
  (h:E (.ref e) { s with heap:=s.heap.update e (Zai (·.setIfInBounds 2 (.ref x))) }):Zt (Z3 prog w) A (raiseNew (α:=α) (.ref e)) Q E s:=by
 unfold raiseNew
 refine Zg (wpAny_handled ?_)
 rw[hh]
 show Zt _ _ (if (ZaI x != ZaI e)=Zd then _ else _) _ _ s
 rw[if_pos (by simp[bne_iff_ne];exact ne)]
 refine Zg (Zam (wpAny_runValue (ZaH Jh1 ?_)))
 ·unfold ZcO.«proto.unchain»
  dsimp only
  refine Zg (Zb0 gx dx x2 ?_)
  rw[if_pos (by rfl)]
  refine Zg (Zv ?_)
  refine Zv ?_
  unfold updateField
  refine Zg (Zg (wpAny_load ge ?_))
  rw[de]
  dsimp only
  rw[if_pos sz]
  exact wpAny_update ge (wpAny_throw h)
theorem Jkx {it l x:Zj}{i:Nat}{items:Array Ze}{ox:Obj}{vx:Array Ze}{Q:Option Ze->Zk->Prop}(hh:A.handled=Za (.ref x))(gx:s.heap.get? x=Za ox)(dx:ox.data=.fields vx)(x2:vx[2]?=Za .none)(xi:x≠it)
  (hit:s.heap.IsListIter it l i)(hl:s.heap.IsList l items)(hx:items[i]?=Zc)
  (hQ:∀h',Zeq it s.heap h'->Q Zc { s with heap:=h' }):Zt (Z3 prog w) A (Zcs (.ref it)) Q E s:=by
 obtain⟨o,ho,hc,hd⟩:=id hit
 obtain⟨ol,hol,_,nl,hdl⟩:=hl
 unfold Zcs
 refine Zg (Ze1 (wpAny_callSpecial?_slot (name:=Zar "__next__") hit.typeIs slot_listiter_next
  (wpAny_call_entry slot_listiter_next hit.typeIs entry_listiter_next ?_ (args_listiter_next _))))
 show Zt _ _ (field (.ref it) 0>>=_) _ _ s
 refine Zg (Zb0 ho hd (x:=.ref l) rfl ?_)
 show Zt _ _ (if (ZaI l==ZK)=Zd then _ else _) _ _ s
 rw[if_neg (show ¬((ZaI l==ZK)=Zd) from Zq)]
 show Zt _ _ (field (.ref it) 1>>=_) _ _ s
 refine Zg (Zb0 ho hd (x:=.int i 0) rfl ?_)
 show Zt _ _ (ZcZ (.ref l)>>=_) _ _ s
 refine Zg (ZbP hol hdl ?_)
 simp only[ZbC,hx]
 refine Zg (Zeb (Zg (ZbN ho hd (by simp) ?_)))
 show Zt _ _ (newExc (.type "StopIteration") []>>=_) _ _ _
 refine Zg ?_
 simp only[newExc,newTuple]
 refine Zg (ZcM ?_ (by size_fits))
 refine Zg (m:=firstArgMember _ _) (wpAny_of_eq (a:=ZK) (by first|rfl|(simp only[firstArgMember];rfl)) ?_)
 refine ZcM ?_ (by size_fits)
 have xlt:=Z0 gx
 have gx1:(s.heap.update it (Zai λ x=>x.setIfInBounds 0 ZK)).get? x=Za ox:=(Zy _ _ (ZT xi)).trans gx
 have eh:∀b o,b≠it->s.heap.get? b=Za o->(s.heap.update it (Zai λ x=>x.setIfInBounds 0 ZK)).get? b=Za o:=λ b o n q=>(Zy _ _ (ZT n)).trans q
 generalize s.heap.update it (Zai λ x=>x.setIfInBounds 0 ZK)=h0 at gx1 eh ⊢
 have gx2:=Zi (h:=h0) { cls:=Zce "tuple",data:=Data.seq #[] } gx1
 have e1:∀b o,h0.get? b=Za o->(h0.push { cls:=Zce "tuple",data:=Data.seq #[] }).get? b=Za o:=λ b o q=>Zi _ q
 refine Jqf (A:=A.in1) (x:=x) hh (Zi _ gx2) dx x2 (Z1 _ rfl) rfl (by simp;omega) (Z6 (Z0 gx2)) ?_
 refine Zg (wpAny_isInstance (T:="StopIteration") (b:=Zd) ⟨_,ZaA _ (Z1 _ rfl) (Zb7 (Za0 rfl _)),Zd5 _ _⟩ isSubtype_stop ?_)
 refine Zv (hQ _ λ b o n q=>?_)
 have l1:=Z0 (e1 b o (eh b o n q))
 rw[Zy _ _ (Zbi l1)]
 exact Zi _ (e1 b o (eh b o n q))
end
theorem Jn2 {X0:Cx}{tg:Expr}(a it:Zj):TurnC X0.prog X0.w (Jvk X0) tg (Itl X0.K a) [it] it (λ i h=>h.IsListIter it a i) where
 obj:=(Yd (P:=X0.prog) (w:=X0.w) (K:=X0.K) (tg:=tg) a it).obj
 keep:=(Yd (P:=X0.prog) (w:=X0.w) (K:=X0.K) (tg:=tg) a it).keep
 self:=(Yd (P:=X0.prog) (w:=X0.w) (K:=X0.K) (tg:=tg) a it).self
 item:=by
  intro X i s σ H c I hf st hg
  obtain⟨c1,c2,c3,_⟩:=c
  rw[<- c1,<-c2]
  rw[<- c3] at hg ⊢
  obtain⟨xs,x,hq,hx⟩:=hg
  obtain⟨its,rv,p,hz⟩:=I.list hq
  obtain⟨u,hu,ru⟩:=rv.get hx
  obtain⟨f0,f1,f2,f3,f4,f5⟩:=hf it (by simp)
  refine ZcH st p.isList (x:=u) (by simpa using hu) λ h' st' sb=>?_
  have I1:Inv X [] σ H { s with heap:=h' }:=I.turned (t':=s.toks) (λ b o hb e=>(sb.2 b hb).trans e) f0 f1 f3 f4 f5
  obtain⟨o,e,c,d⟩:=id st'
  exact⟨u,rfl,Xe (s:={ s with heap:=h' }) e c d (by decide) ⟨x,H,I1,ru,⟨rfl,λ ys hy=>by rw[I.list_inj hy hq];exact hx⟩,st',λ b hb=>(hf b hb).1⟩⟩
 done:=by
  intro X i s σ H c I hf st hg
  obtain⟨c1,c2,c3,e,oe,u,vs,w1,w2,w3,w4⟩:=c
  rw[<- c1,<-c2]
  rw[<- c3] at hg
  obtain⟨xs,hq,hx⟩:=hg
  obtain⟨its,rv,p,hz⟩:=I.list hq
  obtain⟨f0,f1,f2,f3,f4,f5⟩:=hf it (by simp)
  have hl:=rv.length
  exact Jkx w1 (I.hok e _ w2).1 w3 w4 (λ z=>by rw[z,f0] at w2;cases w2) st p.isList (by simp;omega) λ h' eb=>⟨rfl,I.turned (t':=s.toks) (λ b o hb e=>eb b o hb e) f0 f1 f3 f4 f5⟩
def Jwd (ml:E1):I1:=λ σ h=>(ml σ h).bind λ v h1=>match v with
 | .ref i=>(match h1[i]? with
  | some (.lst xs)=>.ok ⟨xs,λ h'=>h'[i]?=Za (.lst xs)⟩ h1
  | _=>.stuck)
 | _=>.stuck
section
variable {ce:CeT}{X:Cx}
theorem Jwj {tg l:Expr}{ml:E1}(hl:PEi ce X l ml):PIc (Jvk X) ce X tg l (Jwd ml):=by
 intro pj s σ H ι σi h Q E N K
 refine hl pj s σ H ι σi h _ E N ?_
 unfold Jwd at K
 cases e0:ml σi h with
 | exc n h'=>rw[e0] at K;exact K
 | stuck=>rw[e0] at K;exact K
 | ok v h' =>
  rw[e0] at K
  intro u s1 H1 ι1 N1 n1 r1
  obtain⟨w,rw',q⟩:=r1
  have Zeg:∀b∈[s1.heap.objs.size],FpOk X pj H1 b:=λ b hb=>by
   have e:b=s1.heap.objs.size:=by simpa using hb
   subst e
   exact N1.inv.fpOk (Zr _) (N1.inv.hok.fresh (Zr _))
  cases v with
  | ref i =>
   obtain⟨a,e1,ha⟩:=q
   subst e1
   cases rw'
   cases hi:h'[i]? with
   | none=>simp only[Res.bind,hi] at K
   | some o =>
    cases o with
    | lst xs =>
     simp only[Res.bind,hi] at K
     obtain⟨vs,e1,r1⟩:=N1.at hi ha
     obtain⟨its,rv,p,hz⟩:=N1.inv.list (SqL.of e1)
     refine ZaZ p.isList (K _ _ H1 ι1 ⟨N1.inv.kept (t':=s1.toks) λ b o e=>Zi _ e,N1.rel,N1.st⟩ n1 ?_)
     exact⟨s1.heap.objs.size,[s1.heap.objs.size],_,Itl X.K a,rfl,Jn2 a _,⟨_,Z1 _ rfl,rfl,rfl⟩,Zeg,Juv ha⟩
    | _=>simp only[Res.bind,hi] at K
  | _=>simp only[Res.bind] at K
theorem Jwh {N0 loc caps:List Str}{js:List Nat}{sc₀ scope:ZaY}{tg iter elt:Expr}{ifs:List Expr}{mi:I1}{g:G1}{mt:T1}{me:E1}{pos:Pos}(hw:Warm X.A X.H₀)(hi:PIc (Jvk X) ce X tg iter mi)
  (hg:∀C s H fp,PGi ce (cxC X (loc++caps) scope C s H fp) tg g)(ht:∀C s H fp,PTsi ce (cxC X (loc++caps) scope C s H fp) ifs mt)(he:∀C s H fp,PEi ce (cxC X (loc++caps) scope C s H fp) elt me)
  (ok:Qe N0 loc caps js sc₀ scope=Zd)(hN0:X.N=N0:=by rfl)(hsc:X.env.scope=sc₀:=by rfl)(hs:∀x,ZbE iter X.env x=pure x:=by intro _;rfl):PEi ce X (.ListComp elt [⟨tg,iter,ifs,0⟩] scope pos) (Ju mi loc.length js g mt me):=by
 intro pj s σ H ι σi h Q E N K
 rw[eval_ListComp]
 have wH:Warm X.A H:=let ⟨a,oe,u,vs,e1,e2,e3,e4⟩:=hw;⟨a,oe,u,vs,e1,N.inv.base.frzs _ _ _ e2,e3,e4⟩
 refine Jf6 hi hg ht he ok hN0 hsc hs (λ _ _ _ _ _ x=>⟨rfl,rfl,rfl,wH.mono x⟩) N ?_
 cases e0:Ju mi loc.length js g mt me σi h with
 | exc n h'=>rw[e0] at K;exact K
 | stuck=>rw[e0] at K;exact K
 | ok v h' =>
  rw[e0] at K
  exact λ D C m s' H' ι' N' n' r hns fC=>⟨m,hns,λ h2 sb=>K _ _ H' ι' (N'.letgo fC sb) n' r⟩
end
section
variable {ce:CeT}{X:Cx}{pj:PnT}{σ:L2.St}{H:Hp}{s:Zk}{ι:List Zj}{σi:ISt}{h:IH}{n:Nat}{c:Str}{fs:List (Str×IV)}{a:Zj}
theorem Jm6 (N:Now ce X pj ι σi h σ H s)(hj:h[n]?=Za (.exc c fs))(hi:ι[n]?=Za a) :
  ∃oe,Now ce X pj ι σi (h.set n (.hld c fs)) σ (upd H a (.frz oe (.own 0))) s/\Nxt ι H ι (upd H a (.frz oe (.own 0)))/\∀A:ZG,Warm (A.mark (Za (.ref a))) (upd H a (.frz oe (.own 0))):=by
 obtain⟨C,tv,d,fe,hC,ha,ht⟩:=Vm N.rel hj hi
 obtain⟨oe,vs,e1,e2,e3,e4,e5,e6⟩:=ExF.get N.inv.hok ha
 obtain⟨R2,n2⟩:=N.rel.write hi ha (by rw[ha];trivial) (o:=.frz oe (.own 0)) (io:=.hld c fs) ⟨C,oe,.own 0,vs,e6▸fe.mono (λ b o u q=>by rw[Jl (λ z=>by subst z;rw[ha] at q;cases q)];exact q),hC,Jw,e2,e3,e5⟩
 have I2:Inv X pj σ (upd H a (.frz oe (.own 0))) s:=N.inv.write (x:=a) (e:=a) (h':=s.heap) (t':=s.toks) (by rw[ha];trivial) (.inl rfl) (λ _ _ _ q=>q) ⟨oe,e1⟩ ⟨e1,oe,e1⟩
 exact⟨oe,⟨I2,R2,N.st.mono n2⟩,n2,λ A=>⟨a,oe,.own 0,vs,rfl,Jw,e3,e5⟩⟩
end
section
variable {P:ZA}{w:ZM}{K:W.Frag}{mg:Str->Option Ze}{base:ZZ}{ce:CeT}
theorem FunD.runW {x qual:Str}{st:Zb2}{f:Zj}{fd:Zap}{dV:Ze}{N ps:List Str}{k:Nat}{m:S1}(F:FunD K x qual st f fd dV)(S:FnScope N ps (Jy st))
  (hbody:∀(cdv:Ze)(A:ZG)(outer:List Env)(s:Zk)(H:Hp)(E:XK)(a:Zj),W.codeIn K cdv qual=Zd->Room k (A.deeper (ZcW qual (Jy st) s.heap.objs.size f cdv))->Warm (A.mark (Za (.ref a))) H->PS2 ce (Jj (cxOf (CXI P w) P w K mg base N qual (Jy st) f cdv A outer s H E).nox a) (JG st) m)
  {A:ZG}{outer:List Env}{s:Zk}{H:Hp}{args:Args}{us:List Ze}{vs:List V}{a:Zj}{ι:List Zj}{h:IH}{ivs:List IV}{Qv:VK}(hr:Room (k+1) A)(e0:Env0 P w K mg base A outer s H)(hw:Warm (A.mark (Za (.ref a))) H)(hb:Zc0 s fd args (ps.zip us))(r:Vals vs us)(hl:vs.length=ps.length)(R:Rel ce K ι h H)(rv:RVs K ι H ivs vs)
  (hk:match fnI N.length m ivs h with
   | .ok v h'=>∀x H' ι',Rel ce K ι' h' H'->Nxt ι H ι' H'->RV K ι' H' v x->Qv x H'
   | _=>False) :
  ZbZ (Z3 P w) (A.mark (Za (.ref a))) (.call (.ref f) args) (λ res s'=>match res with
   | .ok (.ret u)=>CE outer P w H s Qv u s'
   | _=>False) s:=by
 obtain⟨oc,od,kV,doc,pm,an,cdv,ct,osl,rfl,lk,hcd⟩:=F.ex
 have KX:K.In s.heap:=e0.mod.kin.keeps λ b o e=>(e0.bs b o e).1
 have lim:s.heap.NoLimit:=e0.mod.nolimit.keeps λ b o e=>(e0.bs b o e).1
 refine Zej (A:=A.mark (Za (.ref a))) hr.depth (KX _ _ lk) rfl S.co S.gen rfl (W.codeRec_of KX hcd) (hb _ _ _ _ ?_)
 refine Zdu S.kind (λ ⟨y,v⟩ hy=>?_) λ env he s1 z=>?_
 ·rcases S.par y (Zdh hy).1 with q|q
  ·exact .inl q
  ·exact .inr ⟨q,W.cellsFrom_some _ _ _ (.inl q)⟩
 subst he
 refine⟨lim.keeps z.toInCall.keep,codeAny_func ?_⟩
 have I:Inv (cxOf (CXI P w) P w K mg base N qual (Jy st) f cdv A outer s H (λ _ _ _=>False)) [] (start N vs) H s1:=Jjn S hr.hd e0 hl r z
 have I2:Inv (Jj (cxOf (CXI P w) P w K mg base N qual (Jy st) f cdv A outer s H (λ _ _ _=>False)).nox a) [] (start N vs) H s1:=XW (I.wish _) a
 have fin:∀{s':Zk}{σ':L2.St}{H':Hp}{v:V}{u:Ze},Inv (Jj (cxOf (CXI P w) P w K mg base N qual (Jy st) f cdv A outer s H (λ _ _ _=>False)).nox a) [] σ' H' s'->RelV v u->Qv v H'->CE outer P w H s Qv u s' :=
  λ {s' σ' H' v u} J rv q=>⟨v,H',J.os,J.bare,J.base,J.hok,rv,q⟩
 refine ZP (hbody cdv A outer s H (λ _ _ _=>False) a hcd (hr.deeper _) hw [] s1 (start N vs) H ι (V3 N.length ivs) h (λ fl s'=>match fl with
  | .ret u=>CE outer P w H s Qv u s'
  | .next=>CE outer P w H s Qv .none s'
  | _=>False) (λ _ _=>False) ⟨I2,R,rv.start⟩ ?_) (λ fl s' q=>?_) λ _ _ q=>q.elim
 ·unfold fnI SRes.fin at hk
  cases e:m (V3 N.length ivs) h with
  | next σ2 h2 =>
   rw[e] at hk
   exact λ s3 σ3 H3 ι3 N3 n3=>fin (v:=V.non) N3.inv rfl (hk .non H3 ι3 N3.rel n3 rfl)
  | ret v h2 =>
   rw[e] at hk
   exact λ u s3 σ3i σ3 H3 ι3 N3 n3 ⟨y,ry,q⟩=>fin N3.inv ry (hk y H3 ι3 N3.rel n3 q)
  | exc j σ2 h2 =>
   rw[e] at hk
   dsimp only at hk
   cases q:h2[j]? with
   | none=>rw[q] at hk;exact hk.elim
   | some o=>cases o<;>(rw[q] at hk;exact hk.elim)
  | _=>rw[e] at hk;exact hk.elim
 ·cases fl with
  | ret u=>exact q
  | next=>exact q
  | brk=>exact q.elim
  | cont=>exact q.elim
end
def Jql (j:Nat)(f:List IV->IH->Res IV)(i:Nat):S1:=λ σ h=>match σ[i]? with
 | some (Za (.ref n))=>(match h[n]? with
  | some (.exc c fs)=>(match f [.ref n] (h.set n (.hld c fs)) with
   | .ok v h'=>.next (σ.set j (Za v)) h'
   | _=>.stuck)
  | _=>.stuck)
 | _=>.stuck
section
variable {ce:CeT}{X:Cx}
theorem Jtf {a fa:Zj}{x f e xf qual p1:Str}{px pf pe pc pos:Pos}{st:Zb2}{fd:Zap}{dV:Ze}{N':List Str}{k i j:Nat}{m:S1}(F:FunD X.K xf qual st fa fd dV)(S:FnScope N' [p1] (Jy st))
  (hbody:∀(cdv:Ze)(A:ZG)(outer:List Env)(s:Zk)(H:Hp)(E:XK)(a:Zj),W.codeIn X.K cdv qual=Zd->Room k (A.deeper (ZcW qual (Jy st) s.heap.objs.size fa cdv))->Warm (A.mark (Za (.ref a))) H->PS2 ce (Jj (cxOf (CXI X.prog X.w) X.prog X.w X.K X.mg X.base N' qual (Jy st) fa cdv A outer s H E).nox a) (JG st) m)
  (hr:Room (k+1) X.A)(hN:X.N.Nodup)(hjx:X.N[j]?=Za x)(hlx:Loc X.env.scope x)(hf:X.fn x=Zd∨X.env.scope.names.lookup x=Za .local)(hs:ZcD (.Call (.Name f pf) [.Name e pe] [] pc) (Za (.Name x px)) pos.line X.env=pure Zh)
  (hie:X.N[i]?=Za e)(hve:PEi ce (Jj X a) (.Name e pe) (Ja i))(hg:Gl X f)(hm:X.mg f=Za (.ref fa))(hk:W.keepIn X.K (.ref fa)=Zd)(hb:JI X.K fd [p1] [])(hdb:(f==("__debug__":Str))=Zh)
  (he:Z9 [.Name e pe] X.env=(Zh,ZaQ (.Name e pe) X.env)::Z9 [] X.env:=by rfl):PSH ce X a (Za i) [.Assign [.Name x px] (.Call (.Name f pf) [.Name e pe] [] pc) pos] (Jql j (fnI N'.length m) i):=by
 intro pj s σ H ι σi h Q E n c fs ok Nw hj hi hsl K
 have li:i<σi.length:=by
  rw[Nw.st.len,Nw.inv.len]
  exact(Zo.mp hie).1
 have hs1:=hsl i rfl li
 have ha:PAi ce (Jj X a) [.Name e pe] (Jb (Ja i) Jd):=Qa hve Qc he
 unfold Jql at K
 rw[hs1] at K
 dsimp only at K
 rw[hj] at K
 dsimp only at K
 refine ZdP (wpAny_Assign_Name ?_ hs)
 refine ZQ (QP Nw.inv hg hm ?_ hdb)
 refine W.callWith_K (h₀:=X.base) Nw.inv.ok.mod.kin hk ?_ he rfl
 refine ha pc pj s σ H ι σi h _ E Nw ?_
 have ev:Jb (Ja i) Jd σi h=.ok [.ref n] h:=by simp[Jb,Jd,Ja,hs1,Res.bind]
 rw[ev]
 intro us s1 H1 ι1 N1 n1 r1
 obtain⟨vs,rv,qs⟩:=r1
 obtain⟨w,rfl,a',rfl,ha'⟩:=qs.one_of
 obtain⟨u,rfl,ru⟩:=Qk rv
 cases ru
 obtain rfl:a'=a:=Zad (ha'.symm.trans (n1.at hi))
 refine⟨N1.inv.kIn,?_⟩
 obtain⟨oe,N2,n2,hw⟩:=Jm6 N1 hj ha'
 have IX:=Je0 ok N2.inv
 cases er:fnI N'.length m [.ref n] (h.set n (.hld c fs)) with
 | exc _ _=>rw[er] at K;exact Zf K
 | stuck=>rw[er] at K;exact Zf K
 | ok v h' =>
  rw[er] at K
  refine Zc6 (ZbS (F.runW S hbody (ivs:=[.ref n]) (Qv:=λ y H'=>∃ι',Rel ce X.K ι' h' H'/\Nxt ι1 (upd H1 a' (.frz oe (.own 0))) ι' H'/\RV X.K ι' H' v y) hr IX.env0 (hw X.A) (hb s1 [.ref a'] IX.kIn (by simp)) (r:=(.cons (show RelV (.ref a') (.ref a') from rfl) .nil)) (hl:=rfl) (R:=N2.rel) (rv:=⟨_,_,rfl,⟨a',rfl,ha'⟩,rfl⟩) ?_) λ res s' q=>?_)
  ·rw[er]
   exact λ y H' ι' R' n' q=>⟨ι',R',n',q⟩
  ·match res,q with
   | .ok (.ret u),q =>
    obtain⟨y,H',I',ry,ι',R',n',qy⟩:=IX.after q
    have nn:Nxt ι H ι' H':=(n1.trans n2).trans n'
    exact Yc (X:=Jj X a') (XW I' a') hN hjx hlx ry (λ s2 I2=>ZbU (K s2 _ H' ι' ⟨I2,R',(Nw.st.mono nn).set j qy⟩ nn)) hf
   | .error _,q=>exact q.elim
   | .ok .next,q=>exact q.elim
   | .ok .brk,q=>exact q.elim
   | .ok .cont,q=>exact q.elim
end
section
variable {prog:ZA}{w:ZM}{A:ZG}{E:QvT}{s:Zk}
end
def neIn (K:W.Frag)(C:Zj):Bool:=match K.lookup C with
 | some ⟨.type "type",_,.cls cd,sl⟩=>(match cd.mro,sl.toList with
  | [.ref C',.type "object"],[_,_,_,_,Za (.builtin _),_]=>C'==C&&!cd.hasDel&&W.nsOkIn K cd.ns&&W.nsIn K cd.ns "__eq__"==Za Zc&&W.nsIn K cd.ns "__ne__"==Za Zc
  | _,_=>Zh)
 | _=>Zh
theorem neIn.cmp {K:W.Frag}{C x dx:Zj}{h:ZZ}(q:neIn K C=Zd)(I:K.In h)(hx:h.get? x=Za (W.instObj C dx)):h.CmpInst x C [.type "object"]:=by
 unfold neIn at q
 split at q
 case h_2=>cases q
 rename_i dd cd sl ho
 split at q
 case h_2=>cases q
 rename_i D k0 k1 k2 k3 n k5 em es
 simp only[Zl,beq_iff_eq,ZaO] at q
 obtain⟨⟨⟨⟨e1,e3⟩,e5⟩,e6⟩,e7⟩:=q
 subst e1
 obtain⟨nm,bs,mro,N,qn,hd,sn,sub,ab,col,del⟩:=cd
 have em:mro=[.ref D,.type "object"]:=em
 have e3:del=Zh:=e3
 subst em e3
 have es:sl=#[k0,k1,k2,k3,Za (.builtin n),k5]:=by
  rw[<- Zde (xs:=sl),es]
 subst es
 exact⟨_,nm,qn,N,bs,hd,sn,sub,ab,col,dd,k0,k1,k2,k3,k5,n,_,hx,rfl,I _ _ ho,.of_isNs (W.isNs_of_in I e5),W.nsMap_none_of_in I e5 e6,W.nsMap_none_of_in I e5 e7⟩
section
variable {ce:CeT}{X:Cx}{pj:PnT}{s:Zk}{σ:L2.St}{H:Hp}{ι:List Zj}{σi:ISt}{h:IH}
end
section
variable {ce:CeT}{X:Cx}
end
def Jpq:IV->List IV->IH->Res IV
 | .ref i,[.bl k],h=>match h[i]? with
  | some (.lst xs)=>(match Vi xs with
   | some ns=>(match ns.findIdx? (· ==k) with
    | some j=>.ok (.int j) h
    | none=>.stuck)
   | none=>.stuck)
  | _=>.stuck
 | _,_,_=>.stuck
def isB (k:Bool):Ze->Bool
 | .bool a=>a==k
 | _=>Zh
section
variable {ce:CeT}{X:Cx}
theorem Jsz (hu:X.A.units+64<Zez):MtI ce X "list" "list.index" Jpq:=by
 intro pj s σ H ι σi h x xs v us Q E N rx rs K
 obtain⟨xv,rx,qx⟩:=rx
 obtain⟨vs,rv,qs⟩:=rs
 cases x with
 | ref i =>
  match xs,K with
  | [y],K =>
   cases y with
   | bl k =>
    obtain⟨a,rfl,ha⟩:=qx
    obtain⟨w,rfl,qw⟩:=qs.one_of
    cases (show w=.bl k from qw)
    obtain⟨u,rfl,ru⟩:=Qk rv
    cases ru
    cases rx
    dsimp only[Jpq] at K
    cases hi:h[i]? with
    | none=>rw[hi] at K;exact Zf K
    | some ob =>
     rw[hi] at K
     cases ob with
     | lst zs =>
      dsimp only at K
      cases hb:Vi zs with
      | none=>rw[hb] at K;exact Zf K
      | some ns =>
       rw[hb] at K
       dsimp only at K
       cases hj:ns.findIdx? (· ==k) with
       | none=>rw[hj] at K;exact Zf K
       | some j =>
        rw[hj] at K
        obtain⟨ws,e1,r1⟩:=N.at hi ha
        obtain⟨z,its,n,r,hl,eo⟩:=N.inv.lstM e1
        have are:=Jhw hb r1 r
        subst are
        obtain⟨hlt,hp,hno⟩:=Za5.mp hj
        have sb:(2:Nat)^40 ≥ sizeLine:=by decide
        have ln:(ns.map Zc3).length=ns.length:=Zp ..
        refine Zdv F.slot_list_index ⟨_,eo,rfl⟩ F.entry_list_index (F.args_list_index_2 _ _)
         (SeqAt.list_indexAt a (ns.map Zc3).toArray n Zc #[] (.bool k) (isB k) j (by simp;omega) (by omega) ?_ (λ m hm hmj=>?_)) ⟨eo,λ y hy=>?_,?_⟩
        ·simpa [isB] using hp
        ·have:=hno m hmj
         simpa [isB] using this
        ·obtain⟨m,hm,rfl⟩:=Zem.mp hy
         have q:=SeqAt.eqAt_reads (.bool (ns[m]'(by simpa using hm))) (.bool k) X.A.in1 s (.bool (ns[m]'(by simpa using hm))) (.bool k) [] [] (.bool _) (.bool _) rfl rfl (by show X.A.units+1+_<_;simp[PyData.depth];omega)
         simpa [isB,ZaM] using q
        ·exact fin0 N K rfl _ _ (N.inv.kept (t':=s.toks+1) λ _ _ e=>e) ⟨_,rfl⟩
     | _=>exact Zf K
   | _=>exact Zf K
  | [],K=>exact Zf K
  | y::_::_,K=>cases y<;>exact Zf K
 | _=>cases xs with
  | nil=>exact Zf K
  | cons y r=>cases y<;>cases r<;>exact Zf K
end
section
variable {X:Cx}
end
section
variable {ce:CeT}{X:Cx}
end
def Vq:Ty->Option Bool
 | .lst=>Za Zd|.ins c=>if c=="Work" then Za Zh else Zc|.exc _=>Zc|_=>Za Zh
theorem Jnj {ce:CeT}{K:W.Frag}(h:∀C,ce "Work"=Za C->ClsI K C/\W.kitOne K (.ref C) (.type "list")=Za Zh):IsOk ce K (.type "list") Vq:=by
 have O:IsOk ce K (.type "list") Qg:=Jjo
 refine⟨O.non,O.bl,O.int,O.str,O.lst,O.tup,O.dct,λ k C b e hk=>?_,(λ k C b e=>by cases e)⟩
 unfold Vq at e
 dsimp only at e
 split at e
 ·rename_i q
  cases beq_iff_eq.mp q
  cases e
  exact h C hk
 ·cases e
def ExC (h:ZZ)(C:Zj):Prop:=∃nm q N bs bm hdct sn sub ab col dd k0 k1 k2 k3 k5 newId,h.get? C=Za (Zd6 nm q C N bs bm hdct sn sub ab col dd k0 k1 k2 k3 k5 newId)/\bm.contains (.type "BaseException")=Zd
theorem Jgz {M:ZeB}{A:ZG}{E:QvT}{env:Env}{s:Zk}{x:Sem Ze}{Q:Flow->Zk->Prop}(hh:A.handled=Zc)
  (h:Zt M A x (λ v s₁=>∃e oe vs C,v=.ref e/\ExC s₁.heap C/\s₁.heap.get? e=Za oe/\oe.cls=.ref C/\oe.data=.fields vs/\Zt M A (ZcY (.ref e) Zc) (λ _ s₂=>E (.ref e) s₂) E s₁) E s) :
  Zt M A (raiseStmt env (Za x) Zc) Q E s:=by
 unfold raiseStmt
 refine Zg (ZP h (λ v s₁ h₁=>?_) λ _ _ x=>x)
 obtain⟨e,⟨oc,od,odt,osl⟩,vs,C,rfl,⟨nm,q,N,bs,bm,hdct,sn,sub,ab,col,dd,k0,k1,k2,k3,k5,newId,hC,hbase⟩,he,hc,hd,hE⟩:=h₁
 have hcB:(ZaI C::bm).contains (.type "BaseException")=Zd:=by rw[List.contains_cons,hbase,ZeG]
 dsimp only at hc hd
 subst hc hd
 obtain⟨hp,g,d,tk,os⟩:=s₁
 generalize hSF:ZcY=SF at hE ⊢
 repeat (first|with_reducible refine Zcb he ?_|with_reducible refine Zcb hC ?_|(with_reducible refine wpAny_isSubtype_exc hC ?_;rw[hcB])|wp_step)
 subst hSF
 exact ZP hE (λ _ s₂ z=>wpAny_raiseNew_none hh z) λ _ _ z=>z
def Yb (rz:Str->Bool)(m:E1):S1:=λ σ h=>rS σ (m σ h) λ v h1=>match v with
 | .ref n=>(match h1[n]? with
  | some (.exc c _)=>if rz c then .exc n σ h1 else .stuck
  | _=>.stuck)
 | _=>.stuck
section
variable {ce:CeT}{X:Cx}{x:Expr}{m:E1}{pos:Pos}
theorem Jtk {rz:Str->Bool}(hc:X.calm=Zd)(he:PEi ce X x m)(hx:∀c C,rz c=Zd->W.nsIn X.K Zm c=Za (Za (.ref C))->∀h:ZZ,X.K.In h->ExC h C):PS1 ce X (.Raise (Za x) Zc pos) (Yb rz m):=by
 intro pj s σ H ι σi h Q E N K
 rw[arm_exec_Raise]
 refine Zg (Zbz ?_)
 show Zt _ _ (raiseStmt X.env (Za (ZaQ x X.env>>=λ v=>ZeF pos>>=λ _=>pure v)) Zc) Q E s
 refine Jgz (N.inv.ok.hd hc) ?_
 refine Zg (krun he N K λ v h1 u s1 H1 ι1 N1 n1 r1 K1=>?_)
 refine Zg (Zbz (Zv ?_))
 cases v with
 | ref n =>
  obtain⟨xv,rx,a,rfl,hi⟩:=r1
  cases rx
  dsimp only at K1
  cases hj:h1[n]? with
  | none=>rw[hj] at K1;exact Zf K1
  | some ob =>
   rw[hj] at K1
   cases ob with
   | exc c fs =>
    dsimp only at K1
    split at K1
    ·rename_i hr
     obtain⟨C,tv,d,fe,hC,ha,ht⟩:=Vm N1.rel hj hi
     obtain⟨oe,vs,e1,e2,e3,_⟩:=ExF.get N1.inv.hok ha
     refine⟨a,oe,vs,C,rfl,hx c C hr hC _ N1.inv.kIn,e1,e2,e3,?_⟩
     refine Jga N1.inv.hok ha ht λ h' keep=>?_
     exact K1 [] a _ σ H1 ι1 ⟨by rw[Za2];exact N1.inv.kept (t':=s1.toks) keep,N1.rel,N1.st⟩ .refl hi _ (.inl rfl)
    ·exact Zf K1
   | _=>exact Zf K1
 | _=>exact Zf K1
end
section
variable {prog:ZA}{w:ZM}{A:ZG}{E:QvT}{hp:ZZ}{ge:Array ZeA}{dr:Drawn}{tk:Nat}{ox:OsState}
variable {nm qn:Str}{C Na:Zj}{bs bm bmB:List Ze}{hdct:Bool}{sn:List Str}{sub:List Ze}{ab:Bool}{col:Option Bool}{dd:Option Zj}{k0 k1 k2 k3 k5:Option Ze}{B Bn newId nid initId inN:String}{bmN:List Ze}
theorem Jq3 (Fn:Zed Bn newId inN bmN)(hBn:bmB.contains (.type Bn)=Zd)(F:Zed B nid initId bmB)(T:OwnTail hp bmB bm){mN:Str->Option Ze}{as:List Ze}{fI:Zj}{oI:Obj}{Q:Fin->Zk->Prop}
  (hC:hp.get? C=Za (Zd6 nm qn C Na bs bm hdct sn sub ab col dd k0 k1 k2 k3 k5 newId))(hn:hp.Ns Na mN)(hi:mN "__init__"=Za (.ref fI))(hf:hp.get? fI=Za oI)(hfc:oI.cls=.type "function")(hz:as.length<=sizeLine)
  (go:∀h' e,Zes hp h' e (.ref C) as->Zt (Z3 prog w) A (call (.ref fI) (.ref e::as)) (λ r s'=>r=.none/\Q (.done (.ret (.ref e))) s') E ⟨h',ge,dr,tk,ox⟩) :
  Zt (Z3 prog w) A (ZcO.«type.__call__» ⟨.ref C::as,[]⟩) Q E ⟨hp,ge,dr,tk,ox⟩:=by
 repeat (first|with_reducible refine Zcb hC ?_|with_reducible refine wpAny_madeBy_exc hC ?_|wp_step)
 refine codeAny_call_builtin_code (Zc7 _ Fn.quiet) (wpAny_check_new_subU Fn hBn T hC (codeAny_exc_new_subU Fn hBn F T hC ?_ hz))
 show Zt _ _ _ _ _ _
 generalize hoT:({ cls:=.type "tuple",data:=.seq as.toArray }:Obj)=oT
 generalize hoE:({ cls:=.ref C,data:=.fields #[.ref hp.objs.size,.none,.none,.none,.bool Zh,.none] }:Obj)=oE
 have up:∀b o,hp.get? b=Za o->((hp.push oT).push oE).get? b=Za o:=λ b o q=>Zi _ (Zi _ q)
 have gE:((hp.push oT).push oE).get? (hp.objs.size+1)=Za oE:=by
  subst hoE hoT
  heap_get
 have gT:((hp.push oT).push oE).get? hp.objs.size=Za oT:=by
  subst hoE hoT
  exact Zi _ (Zd7 rfl rfl)
 have C1:=up _ _ hC
 have N1:((hp.push oT).push oE).Ns Na mN:=let ⟨o,es,ep,q,r⟩:=hn;⟨o,es,ep,up _ _ q,r⟩
 have cC:(ZaI C::bm).contains (.ref C)=Zd:=by simp
 have T1:=T.keeps up
 have made:Zes hp ((hp.push oT).push oE) (hp.objs.size+1) (.ref C) as:=⟨up,Zcf (ZaC _),hp.objs.size,by rw[gE,hoE],Zcf (Zr _),by rw[gT,hoT]⟩
 have gE':=gE
 rw[<- hoE] at gE'
 subst hoE hoT
 unfold Ze8
 repeat (first|with_reducible refine Zcb gE ?_|(with_reducible refine wpAny_isSubtype_exc C1 ?_;rw[cC])|wp_step)
 show Zt _ _ (Ze5 (.ref C) _) _ _ _
 refine wpAny_typeLookup_tail C1 N1 T1 F.mroIs F.init.lookup ?_
 rw[hi]
 refine Zam (Zg ?_)
 unfold bindSpecial
 refine Zg (wpAny_typeOf (T:="function") ⟨_,up _ _ hf,hfc⟩ ?_)
 rw[if_pos (by decide)]
 refine Zv (Zg (ZP (go _ _ made) (λ r s' hr=>?_) λ _ _ z=>z))
 obtain⟨rfl,hQ⟩:=hr
 wp_walk
 exact hQ
theorem Jor (Fn:Zed Bn newId inN bmN)(hBn:bmB.contains (.type Bn)=Zd)(F:Zed B nid initId bmB)(T:OwnTail hp bmB bm){mN:Str->Option Ze}{as:List Ze}{fI:Zj}{oI:Obj}{Q:QvT}
  (hC:hp.get? C=Za (Zd6 nm qn C Na bs bm hdct sn sub ab col dd k0 k1 k2 k3 k5 newId))(hn:hp.Ns Na mN)(hi:mN "__init__"=Za (.ref fI))(hf:hp.get? fI=Za oI)(hfc:oI.cls=.type "function")(hz:as.length<=sizeLine)
  (go:∀h' e,Zes hp h' e (.ref C) as->Zt (Z3 prog w) (A.under (.builtin "type.__call__" ⟨.ref C::as,[]⟩)) (call (.ref fI) (.ref e::as)) (λ r s'=>r=.none/\Q (.ref e) s') E ⟨h',ge,dr,tk,ox⟩) :
  Zt (Z3 prog w) A (call (.ref C) as) Q E ⟨hp,ge,dr,tk,ox⟩:=by
 have g1:=tc_lookup
 have g2:=tc_bind (.ref C)
 have gt:(⟨hp,ge,dr,tk,ox⟩:Zk).TypeIs (.ref C) "type":=⟨_,hC,rfl⟩
 refine Zc6 (codeAny_of_tree ?_)
 show Zt _ _ (callAny (.ref C) _) _ _ _
 repeat (any_goals (first|assumption|with_reducible refine Zcb hC ?_|wp_step))
 exact⟨rfl,codeAny_call_builtin_at (Zc7 _ (by decide +kernel)) entry_typeCall (wpAny_check_type_call_sub hC (Jq3 Fn hBn F T hC hn hi hf hfc hz go))⟩
end
theorem Jz7 {K:W.Frag}{h:ZZ}{N:Zj}{m:Str->Option Ze}{x:Str}{v:Ze}(I:K.In h)(G:h.Ns N m)(e:W.nsIn K N x=Za (Za v)):m x=Za v:=by
 obtain⟨o,es,ep,go,gd,_,gf⟩:=G
 unfold W.nsIn at e
 split at e
 ·rename_i q
  have z:=I _ _ q
  rw[go] at z
  cases z
  cases gd
  split at e
  ·rename_i en he
   cases e
   rw[<- gf]
   unfold nsFind findBy
   rw[<- Zdt,he]
   rfl
  ·split at e<;>cases e
 ·cases e
def JV (K:W.Frag)(C f:Zj):Bool:=match K.lookup C with
 | some ⟨.type "type",_,.cls cd,sl⟩=>(match cd.mro,sl.toList with
  | .ref C'::bm,[_,_,_,_,Za (.builtin n),_]=>C'==C&&n=="ValueError.__new__"&&!cd.hasDel&&W.tailIn K bmV bm&&W.nsOkIn K cd.ns&&W.nsIn K cd.ns "__init__"==Za (Za (.ref f))&&(match K.lookup f with|some o=>o.cls==.type "function"|none=>Zh)
  | _,_=>Zh)
 | _=>Zh
theorem JV.obj {K:W.Frag}{C f:Zj}{h:ZZ}(x:JV K C f=Zd)(I:K.In h):∃bm N nm q bs hdct sn sub ab col dd k0 k1 k2 k3 k5 mN oI,h.get? C=Za (Zd6 nm q C N bs bm hdct sn sub ab col dd k0 k1 k2 k3 k5 "ValueError.__new__")/\h.Ns N mN/\mN "__init__"=Za (.ref f)/\OwnTail h bmV bm/\h.get? f=Za oI/\oI.cls=.type "function":=by
 unfold JV at x
 split at x
 case h_2=>cases x
 rename_i dd cd sl ho
 split at x
 case h_2=>cases x
 rename_i D bm k0 k1 k2 k3 n k5 em es
 simp only[Zl,beq_iff_eq,ZaO] at x
 obtain⟨⟨⟨⟨⟨⟨e1,e2⟩,e3⟩,e4⟩,e5⟩,e6⟩,e7⟩:=x
 subst e1 e2
 obtain⟨nm,bs,mro,N,qn,hd,sn,sub,ab,col,del⟩:=cd
 have em:mro=.ref D::bm:=em
 have e3:del=Zh:=e3
 subst em e3
 have es:sl=#[k0,k1,k2,k3,Za (.builtin "ValueError.__new__"),k5]:=by
  rw[<- Zde (xs:=sl),es]
 subst es
 cases lk:K.lookup f with
 | none=>rw[lk] at e7;cases e7
 | some o =>
  rw[lk] at e7
  exact⟨bm,N,nm,qn,bs,hd,sn,sub,ab,col,dd,k0,k1,k2,k3,k5,_,o,I _ _ ho,.of_isNs (W.isNs_of_in I e5),Jz7 I (.of_isNs (W.isNs_of_in I e5)) e6,W.tail_of_in I e4,I _ _ lk,beq_iff_eq.mp e7⟩
section
variable {X:Cx}{pj:PnT}{σ:L2.St}{H:Hp}{s:Zk}{k:Nat}{f C:Zj}{fd:Zap}{ps:List Str}{sp:Sp}{dvs:List V}{ds:List Ze}{E:XK}{Q:VK}{us:List Ze}{vs:List V}{W:QvT}
theorem Jqi (xc:JV X.K C f=Zd)(F:FnOk X.prog X.w X.K X.mg X.base (CXI X.prog X.w) k f fd ps sp)(hr:Room (k+1) X.A)(hb:JI X.K fd ps ds)(hd:Vals dvs ds)(I:Inv X pj σ H s)(r:Vals vs us)(hz:us.length<=sizeLine)
  (h:∀e,H e=Zc->sp (.ref e::(vs++dvs)) (upd H e (ExF e C .none Zc)) (λ v H2=>v=.non/\Q (.ref e) H2) E)
  (hx:∀e s' H',Inv X pj σ H' s'->E e Zc H'->W e s'):Zt (Z3 X.prog X.w) X.A (call (.ref C) us) (EP X pj σ Q) W s:=by
 obtain⟨bm,Na,nm,qn,bs,hdct,sn,sub,ab,col,dd,k0,k1,k2,k3,k5,mN,oI,hCo,hN,hni,T,hf,hfc⟩:=JV.obj xc I.kIn
 obtain⟨hp,ge,dr,tk,ox⟩:=s
 refine Jor Zci (by decide) Zci T hCo hN hni hf hfc hz λ h' e M=>?_
 obtain⟨t,hat,_,_⟩:=M.there
 have he:H e=Zc:=by
  cases z:H e with
  | none=>rfl
  | some u =>
   obtain⟨o,z'⟩:=Jqb (I.hok e u z)
   rw[show hp.get? e=Zc from M.new] at z'
   cases z'
 have kk:∀b u,hp.get? b=Za u->h'.get? b=Za u:=λ b u q=>M.keeps b u q
 have up:∀{b:Zj}{u:HO},H b=Za u->upd H e (ExF e C .none Zc) b=Za u:=λ {b u} q=>by
  rw[Jl (λ z=>by subst z;rw[he] at q;cases q)]
  exact q
 have un:Un X.fs [] H (upd H e (ExF e C .none Zc)) hp h' :=
  ⟨λ b o q _ _ _=>kk b o q,λ b o q _ _ _=>⟨o.slots,kk b o q⟩,λ b o q n _=>by rw[Jl (λ z=>by subst z;rw[show hp.get? b=Zc from M.new] at q;cases q)];exact n,λ b o q _=>⟨o,kk b o q⟩,λ b xs q=>up q,λ b o u q=>up q,λ b ps q=>⟨#[],by rw[up q];simp⟩⟩
 have ok:HOk X.prog X.w (upd H e (ExF e C .none Zc)) h':=λ b u q=>by
  by_cases z:b=e
  ·subst z
   rw[Jw] at q
   cases q
   exact ExF.ok hat rfl rfl rfl rfl rfl
  ·rw[Jl z] at q
   exact(I.hok b u q).stay (λ d v _ p=>kk d v p) (λ d p=>up p) λ d xs p=>up p
 have J:Inv X pj σ (upd H e (ExF e C .none Zc)) ⟨h',ge,dr,tk,ox⟩:=I.un (t':=tk) un ok
 have hq:=h e he
 have ra:Vals (V.ref e::(vs++dvs)) (ZaI e::(us++ds)):=.cons rfl (r.append hd)
 have la:=ra.length
 have lf:=F.len _ _ _ _ hq
 have hl:(ZaI e::us++ds).length=ps.length:=by
  rw[ZS]
  omega
 refine Zc6 (ZbS (F.run _ _ _ _ ⟨.ref e::us,[]⟩ _ _ _ _ (hr.make C us []) (J.env0.make C us []) (hb _ (.ref e::us) J.kIn hl) ra hq) λ res s' q=>?_)
 match res,q with
 | .error x,q =>
  obtain⟨H',I',z⟩:=Jq0 J q
  exact hx x s' H' I' z
 | .ok (.ret u),q =>
  obtain⟨v,H',J3,rv,ev,q3⟩:=J.after q
  subst ev
  exact⟨rv,⟨V.ref e,H',J3,rfl,q3⟩⟩
 | .ok .next,q=>exact Za9 q
 | .ok .brk,q=>exact Za9 q
 | .ok .cont,q=>exact Za9 q
end
def Jlv (c:Str)(f:List IV->IH->Res IV)(dvs:List IV)(a:A1):E1:=λ σ h=>(a σ h).bind λ vs h1=>(f (.ref h1.length::(vs++dvs)) (h1++[.exc c []])).bind λ r h2=>match r with
 | .non=>.ok (.ref h1.length) h2
 | _=>.stuck
section
variable {ce:CeT}{X:Cx}{k:Nat}{fa C:Zj}{fd:Zap}{ps:List Str}{f:List IV->IH->Res IV}{dvs:List IV}{ds:List Ze}{x c:Str}{p pos:Pos}{e:Expr}{es:List Expr}{ma:A1}
theorem Jnu {pj:PnT}{σ:L2.St}{H:Hp}{ι:List Zj}{σi:ISt}{h:IH}{s:Zk}{Q:QvT}{E:QvT}{us:List Ze}{xs:List IV}(xc:JV X.K C fa=Zd)(F:FnOk X.prog X.w X.K X.mg X.base (CXI X.prog X.w) k fa fd ps (spI ce X.K ps f))(hC:W.nsIn X.K Zm c=Za (Za (.ref C)))(hr:Room (k+1) X.A)(hb:JI X.K fd ps ds)
  (hd:∃vs,Vals vs ds/\∀ι H,RVs X.K ι H dvs vs)(hlen:us.length+ds.length+1=ps.length)(hz:us.length<=sizeLine)(N:Now ce X pj ι σi h σ H s)(r:RUs X.K ι H xs us)
  (K:Kont ce X RU pj ι σi σ H ((f (.ref h.length::(xs++dvs)) (h++[.exc c []])).bind λ r h2=>match r with|.non=>.ok (.ref h.length) h2|_=>.stuck) Q E):Zt (Z3 X.prog X.w) X.A (call (.ref C) us) Q E s:=by
 obtain⟨vs,rv,q⟩:=r
 obtain⟨dv,rd,qd⟩:=hd
 have hl1:=rv.length
 have hl2:=rd.length
 refine ZP (Jqi (Q:=λ z H'=>∀u s',Inv X pj σ H' s'->RelV z u->Q u s') (E:=λ v _ H'=>∀s',Inv X pj σ H' s'->E v s') xc F hr hb rd N.inv rv hz (λ b hx=>⟨by rw[ZB,ZD];omega,?_⟩) λ _ s' _ I' z=>z s' I')
  (λ u s' ⟨z,H',I',r',k'⟩=>k' u s' I' r') λ _ _ z=>z
 obtain⟨R2,n2⟩:=N.rel.alloc (o:=ExF b C .none Zc) (io:=.exc c []) hx ⟨C,.none,Zc,.inl ⟨rfl,rfl⟩,hC,Jw,.inl rfl⟩
 have hat:(ι++[b])[h.length]?=Za b:=by
  rw[<- N.rel.len,Z4 (Zr _)]
  simp
 refine⟨ι++[b],h++[.exc c []],.ref h.length::(xs++dvs),R2,⟨_,_,rfl,⟨b,rfl,hat⟩,(RVs.mono n2 _ _ q).append (qd _ _)⟩,?_⟩
 cases e0:f (.ref h.length::(xs++dvs)) (h++[.exc c []]) with
 | ok v h' =>
  rw[e0] at K
  intro z H' ι' R' n' qz
  cases v with
  | non =>
   cases (show z=.non from qz)
   exact⟨rfl,λ u s' I' ru=>K u s' H' ι' ⟨I',R',N.st.mono (n2.trans n')⟩ (n2.trans n') ⟨.ref b,ru,b,rfl,n'.at hat⟩⟩
  | _=>exact Zf K
 | exc n h' =>
  rw[e0] at K
  exact λ a H' ι' R' n' hi s' I'=>K [] a s' H' ι' ⟨by simpa using I',R',N.st.mono (n2.trans n')⟩ (n2.trans n') hi
 | stuck=>rw[e0] at K;exact Zf K
theorem Jwl (xc:JV X.K C fa=Zd)(kp:W.keepIn X.K (.ref C)=Zd)(F:FnOk X.prog X.w X.K X.mg X.base (CXI X.prog X.w) k fa fd ps (spI ce X.K ps f))(hC:W.nsIn X.K Zm c=Za (Za (.ref C)))(hr:Room (k+1) X.A)(hg:Gl X x)(hm:X.mg x=Za (.ref C))(hb:JI X.K fd ps ds)(hd:∃vs,Vals vs ds/\∀ι H,RVs X.K ι H dvs vs)
  (ha:PAi ce X (e::es) ma)(hlen:∀σ h xs h',ma σ h=.ok xs h'->xs.length+ds.length+1=ps.length)(hz:ps.length<=sizeLine)(hdb:(x==("__debug__":Str))=Zh:=by decide)(he:Z9 (e::es) X.env=(Zh,ZaQ e X.env)::Z9 es X.env:=by rfl)(hpl:(ZaX pos (Z9 es X.env)).any (·.1)=Zh:=by rfl) :
  PEi ce X (.Call (.Name x p) (e::es) [] pos) (Jlv c f dvs ma):=by
 intro pj s σ H ι σi h Q E N K
 refine ZQ (QP N.inv hg hm ?_ hdb)
 refine W.callWith_K (h₀:=X.base) N.inv.ok.mod.kin kp ?_ he hpl
 have K':=K
 unfold Jlv at K'
 refine ha pos pj s σ H ι σi h _ E N ?_
 cases e0:ma σi h with
 | exc n h'=>rw[e0] at K';exact K'
 | stuck=>rw[e0] at K';exact K'
 | ok xs h' =>
  rw[e0] at K'
  intro us s1 H1 ι1 N1 n1 r1
  have hl:xs.length=us.length:=by
   obtain⟨vs,rv,q⟩:=r1
   rw[<- rv.length,q.length]
  have hn:=hlen σi h xs h' e0
  exact⟨N1.inv.kIn,Jnu (us:=us) xc F hC hr hb hd (by omega) (by omega) N1 r1 (Kont.mono (r:=(f (IV.ref h'.length::(xs++dvs)) (h'++[.exc c []])).bind λ r h2=>match r with|IV.non=>Res.ok (IV.ref h'.length) h2|_=>Res.stuck) K' n1)⟩
end
section
variable {X:Cx}{pj:PnT}{σ:L2.St}{H:Hp}{s:Zk}{f C e:Zj}{tv:Ze}{d:Option Zj}{us:List Ze}
theorem J1a {H:Hp}{a:Zj}{o:HO}(h:H a=Za o):upd H a o=H:=by
 funext b
 by_cases z:b=a
 ·subst z
  rw[Jw,h]
 ·rw[Jl z]
theorem Jr8 (xc:JV X.K C f=Zd)(I:Inv X pj σ H s)(ha:H e=Za (ExF e C tv d))(hz:us.length<=sizeLine){Q:QvT}{E:QvT}
  (go:∀s',Inv X pj σ H s'->Q .none s'):Zt (Z3 X.prog X.w) X.A (call (.builtin "ValueError.__init__") (.ref e::us)) Q E s:=by
 obtain⟨bm,Na,nm,qn,bs,hdct,sn,sub,ab,col,dd,k0,k1,k2,k3,k5,mN,oI,hCo,hN,hni,T,hf,hfc⟩:=JV.obj xc I.kIn
 obtain⟨oe,vs,g1,g2,g3,g4,g5,g6⟩:=ExF.get I.hok ha
 refine Zc6 (ZbF PySem.F.excBase_ValueError.init.plain PySem.F.excBase_ValueError.initEntry ?_)
 obtain⟨hp,ge,dr,tk,ox⟩:=s
 refine wpAny_check_init_subU Zci T hCo g1 g2 ?_
 unfold ZcO.«BaseException.__init__»
 wp_walk
 have sz:1<vs.size:=(ZaD.mp g4).1
 obtain⟨a0,h0⟩:∃a0,vs[0]?=Za a0:=⟨vs[0],Zcr (by omega)⟩
 rw[g3]
 refine Zv ?_
 dsimp only
 rw[h0]
 refine Zv ?_
 have g1':=Zi (h:=hp) { cls:=.type "tuple",data:=.seq us.toArray } g1
 refine Zg (ZbN (i:=0) g1' g3 (by omega) ?_)
 have I1:Inv X pj σ H ⟨hp.push { cls:=.type "tuple",data:=.seq us.toArray },ge,dr,tk,ox⟩:=I.kept (t':=tk) λ b o q=>Zi _ q
 have hd2:=Za0 g3 (·.setIfInBounds 0 (ZaI hp.objs.size))
 have he2:=ZaA (Zai (·.setIfInBounds 0 (ZaI hp.objs.size))) g1' (Zb7 hd2)
 have I2:Inv X pj σ (upd H e (ExF e C tv d)) ⟨(hp.push { cls:=.type "tuple",data:=.seq us.toArray }).update e (Zai (·.setIfInBounds 0 (ZaI hp.objs.size))),ge,dr,tk,ox⟩ :=
  I1.write (x:=e) (e:=e) (t':=tk) (by rw[ha];trivial) (.inl rfl) (λ b u n q=>(Zy _ _ (ZT n)).trans q) ⟨_,he2⟩
   (ExF.ok he2 ((Zd5 _ _).trans g2) hd2 (by rw[ZbJ (by decide)];exact g4) (by rw[ZbJ (by decide)];exact g5) ((Ji8 _ _).trans g6))
 rw[J1a ha] at I2
 have q2:=go _ I2
 cases a0 with
 | ref b=>exact ZbG (Zv q2)
 | _=>exact Zv (Zv q2)
end
structure BasX (K:W.Frag)(D:Zj):Prop where
 sp:W.specialIn K (.ref D) "__getattribute__"=Za (Za (.builtin "type.__getattribute__"))
 rd:W.readsIn K D (.type "type")=Zd
 fc:W.findCls K (.ref D) (.type "type") "__init__"=Za (.val (.builtin "ValueError.__init__"))
def XL (rz:Str->Bool)(a:A1):E1:=λ σ h=>(a σ h).bind λ vs h1=>match vs with
 | [.ref n,.str _]=>(match h1[n]? with
  | some (.exc c _)=>if rz c then .ok .non h1 else .stuck
  | _=>.stuck)
 | _=>.stuck
section
variable {ce:CeT}{X:Cx}{D:Zj}{x:Str}{p pos apos:Pos}{e:Expr}{es:List Expr}{ma:A1}{pl:Sem Bool}
theorem Jwe {rz:Str->Bool}(hx:∀c C,rz c=Zd->W.nsIn X.K Zm c=Za (Za (.ref C))->∃f,JV X.K C f=Zd)(hg:Gl X x)(hm:X.mg x=Za (.ref D))(B:BasX X.K D)
  (ha:PAi ce X (e::es) ma)(hdb:(x==("__debug__":Str))=Zh:=by decide)(he:Z9 (e::es) X.env=(Zh,ZaQ e X.env)::Z9 es X.env:=by rfl)(hpl:(ZaX pos (Z9 es X.env)).any (·.1)=Zh:=by rfl)
  (ht:ZaQ (.Call (.Attribute (.Name x p) "__init__" apos) (e::es) [] pos) X.env=(do
   let ov<-ZaQ (.Name x p) X.env
   ZeF apos.atName
   let (f,first)<-Zdb [ov] (ZdJ ov "__init__" pl)
   callWith pos f first (ZaX pos (Z9 (e::es) X.env)) (ZdR pos (ZcE [] X.env))):=by rfl) :
  PEi ce X (.Call (.Attribute (.Name x p) "__init__" apos) (e::es) [] pos) (XL rz ma):=by
 intro pj s σ H ι σi h Q E N K
 refine W.methodCall_KW (pl:=pl) (QP N.inv hg hm ?_ hdb) ht
 refine W.method_cls N.inv.kIn B.sp (W.cls_value N.inv.kIn B.rd B.fc rfl ?_)
 have N':Now ce X pj ι σi h σ H { s with toks:=s.toks+1 }:=⟨N.inv.tok _,N.rel,N.st⟩
 refine Zbg ?_ he hpl
 refine(ha pos).run N' K λ xs h1 us s1 H1 ι1 N1 n1 r1 K1=>?_
 obtain⟨vs,rv,qs⟩:=r1
 by_cases hv:∃n y,xs=[.ref n,.str y]
 ·obtain⟨n,y,rfl⟩:=hv
  obtain⟨w1,w2,rfl,⟨a,rfl,hi⟩,q2⟩:=qs.two_of
  obtain⟨u1,u2,rfl,p1,p2⟩:=rv.two
  cases p1
  dsimp only at K1
  cases hj:h1[n]? with
  | none=>rw[hj] at K1;exact Zf K1
  | some ob =>
   rw[hj] at K1
   cases ob with
   | exc c fs =>
    dsimp only at K1
    split at K1
    ·rename_i hr
     obtain⟨C,tv,d,fe,hC,hH,ht'⟩:=Vm N1.rel hj hi
     obtain⟨f,xc⟩:=hx c C hr hC
     have sb:1<=sizeLine:=by decide
     exact Jr8 xc N1.inv hH (by simpa using sb) λ s' I'=>K1 _ s' H1 ι1 ⟨I',N1.rel,N1.st⟩ .refl ⟨.non,rfl,rfl⟩
    ·exact Zf K1
   | _=>exact Zf K1
 ·refine(show False from ?_).elim
  split at K1
  ·exact hv ⟨_,_,rfl⟩
  ·exact K1
end
def Jly:List Ze->Bool
 | .ref _::r=>Jly r
 | l=>l==bmV
theorem Jhj (self:Ze):∀{l:List Ze},Jly l=Zd->refuseLoop self "__setattr__" l=pure ()
 | .ref c::r,e=>by
  rw[refuseLoop_ref]
  exact Jhj self (l:=r) e
 | [],e=>by cases e
 | .type n::r,e=>by
  rw[show Zce n::r=bmV from beq_iff_eq.mp e]
  exact PySem.F.store_ValueError.passes self
 | .none::_,e=>absurd (beq_iff_eq.mp e) nofun
 | .bool _::_,e=>absurd (beq_iff_eq.mp e) nofun
 | .int _ _::_,e=>absurd (beq_iff_eq.mp e) nofun
 | .str _ _::_,e=>absurd (beq_iff_eq.mp e) nofun
 | .float _ _::_,e=>absurd (beq_iff_eq.mp e) nofun
 | .bytes _ _::_,e=>absurd (beq_iff_eq.mp e) nofun
 | .ellipsis::_,e=>absurd (beq_iff_eq.mp e) nofun
 | .notImplemented::_,e=>absurd (beq_iff_eq.mp e) nofun
 | .builtin _::_,e=>absurd (beq_iff_eq.mp e) nofun
theorem Jo5:∀{l:List Ze},Jly l=Zd->l.contains (.type "object")=Zd
 | .ref c::r,e=>by rw[List.contains_cons,Jo5 (l:=r) e,ZeG]
 | [],e=>by cases e
 | .type n::r,e=>by rw[show Zce n::r=bmV from beq_iff_eq.mp e];decide
 | .none::_,e=>absurd (beq_iff_eq.mp e) nofun
 | .bool _::_,e=>absurd (beq_iff_eq.mp e) nofun
 | .int _ _::_,e=>absurd (beq_iff_eq.mp e) nofun
 | .str _ _::_,e=>absurd (beq_iff_eq.mp e) nofun
 | .float _ _::_,e=>absurd (beq_iff_eq.mp e) nofun
 | .bytes _ _::_,e=>absurd (beq_iff_eq.mp e) nofun
 | .ellipsis::_,e=>absurd (beq_iff_eq.mp e) nofun
 | .notImplemented::_,e=>absurd (beq_iff_eq.mp e) nofun
 | .builtin _::_,e=>absurd (beq_iff_eq.mp e) nofun
section
variable {prog:ZA}{w:ZM}{A:ZG}{K:W.Frag}{C x:Zj}{s:Zk}{R:ZdA->Zk->Prop}{ox:Obj}{name:Str}{v:Ze}
structure StoX (K:W.Frag)(C:Zj)(name:Str):Prop where
 line:(W.clsIn K C).any (λ cd=>Jly cd.mro&&cd.hasDict)=Zd
 free:W.takerIn K C name=Za Zc
 way:W.findIn K (.ref C) "__setattr__"=Za (Za (.builtin "object.__setattr__"))
theorem Jsa (S:StoX K C name){tk:Tok}(X:K.In s.heap)(I:W.InstAt s.heap x ox C Zc)
  (h:∀b,Zt (Z3 prog w) A.in1 (Builtin.ObjectAttr.storeInOwnDict (.ref x) (.ref C) (.str name tk) name v b) (λ fin s'=>match fin with|.done f=>R (.ok f) s'|.again c=>c.quiet=Zd/\ZbZ (Z3 prog w) A c R s') (λ e s'=>R (.error e) s') s) :
  ZbZ (Z3 prog w) A (.call (.builtin "object.__setattr__") ⟨[.ref x,.str name tk,v],[]⟩) R s:=by
 obtain⟨cd,hc,hq⟩:=W.any_some S.line
 obtain⟨ho,hdc⟩:=Zdf.mp hq
 have ne:cd.mro.isEmpty=Zh:=by
  cases q:cd.mro with
  | cons _ _=>rfl
  | nil=>rw[q] at ho;cases ho
 have hob:W.Looks (Z3 prog w) s.heap (Ze8 (.ref x) (.type "object")) Zd :=
  I.type.andThen (W.looks_mroIn X (by
   unfold W.mroIn
   rw[hc,Zb3,if_neg (by rw[ne];decide),Jo5 ho]))
 have SO:=PySem.F.store_object
 obtain⟨attr,ha,hr⟩:=ZdT.mp S.free
 have st:W.Looks (Z3 prog w) s.heap (Builtin.ObjectAttr.storeTaker? attr) Zc:=by
  cases attr with
  | some a =>
   obtain⟨b,hb,e⟩:=Z5.mp hr
   refine(W.looks_takesIn X hb).andThen ?_
   cases b with
   | false=>exact .now
   | true=>cases e
  | none=>exact .now
 refine ZbF SO.slot.plain SO.entry ?_
 refine @W.check_slot (Z3 prog w) _ _ s "object.__setattr__" "object" "__setattr__" (.ref x) [.str name tk,v] [] _ SO.kind SO.split hob (SO.args _ _ _) ?_
 rw[W.osa_eq,refuse_eq]
 have mr:W.Looks (Z3 prog w) s.heap (mroOf (.ref C)) cd.mro:=(W.looks_clsIn X hc).andThen .now
 refine Zg (Zg (I.type.here (Zg (mr.here ?_))))
 rw[Jhj _ ho]
 exact Zv (Zg (I.type.here (Zg ((W.looks_findIn X ha).here (Zg (st.here (h _)))))))
end
section
variable {prog:ZA}{w:ZM}{A:ZG}{K:W.Frag}{C x:Zj}{s:Zk}{ox:Obj}{name:Str}{v:Ze}
theorem Jo6 (S:StoX K C name){Q:Unit->Zk->Prop}{E:QvT}(X:K.In s.heap)(I:W.InstAt s.heap x ox C Zc)(hd:ox.dict=Zc)
  (go:∀h' t',h'.get? x=Za { ox with dict:=Za s.heap.objs.size }->h'.Ns1 s.heap.objs.size (λ y=>if y=name then Za v else Zc)->(∀b o,b≠x->s.heap.get? b=Za o->h'.get? b=Za o)->Q () { s with heap:=h',toks:=t' }) :
  Zt (Z3 prog w) A (setAttr (.ref x) name v) Q E s:=by
 refine W.set_plain X I S.way (Jsa (s:={ s with toks:=s.toks+1 }) S X I λ b=>?_)
 obtain⟨cd,hc,hq⟩:=W.any_some S.line
 have hdc:=(Zdf.mp hq).2
 obtain⟨hx,hcl,hn,-⟩:=I
 obtain⟨oc,odi,oda,osl⟩:=ox
 dsimp only at hcl hd go
 subst hcl hd
 obtain⟨hp,ge,dr,tk,os⟩:=s
 dsimp only at hx X go ⊢
 refine Zg (Zv (Zg (Zg (Zeo hx (Zg ((W.looks_clsIn X hc).here ?_))))))
 rw[hdc]
 have fr:=(Heap.get?_some_iff.mp hx).2
 have lt:x≠hp.objs.size:=Z6 (Z0 hx)
 have h1:=Zi (h:=hp) { cls:=.type "dict",data:=.dict #[] } hx
 rw[if_neg (by decide)]
 show Zt _ _ (if (!true||!typeHasDict (.ref C))=Zd then pure Zc else match oda with|Data.cls c=>pure Zc|_=>(alloc { cls:=Zce "dict",data:=Data.dict #[] }>>=λ d=>update x (λ o=>{ o with dict:=Za d })>>=λ _=>dictMade (.ref C) x d)) _ _ _
 rw[if_neg (by simp[typeHasDict])]
 split
 ·cases hn
 ·refine Zg (wpAny_alloc' (Zg (wpAny_update' h1 (Zv ?_))))
  have at':=(Zdm (hp.push { cls:=.type "dict",data:=.dict #[] }) hp.objs.size x (λ o:Obj=>{ o with dict:=Za hp.objs.size }) lt.symm).trans (Zd7 rfl rfl)
  refine Zg (Zv (Zg (wpAny_nsSet1 (Heap.Ns1.of_empty ⟨_,#[],_,at',rfl,λ e z=>absurd z (by simp),λ _=>rfl⟩) λ h' n' sb=>?_)))
  obtain⟨oD,es,ep,g,gd,gl⟩:=n'.count (Within.cons name v Within.nil)
  refine Zg (wpAny_lookBehind g (by rw[gd];exact pastItsLine_dict (Zal gl (Nat.le_add_left 1 _))) (Zv ?_))
  refine go h' _ ?_ n' λ b o nb q=>(sb.2 b (Z6 (Z0 q))).trans ((Zdm _ _ _ _ nb).trans (Zi _ q))
  refine(sb.2 x lt).trans (ZaA _ h1 ?_)
  revert fr
  cases oda<;>exact id
end
theorem Js7 {h:ZZ}{a:Zj}{m:Str->Option Ze}{f:Str}{v:Ze}(n:h.Ns1 a m)(e:m f=Za v):∃o,h.get? a=Za o/\o.isFreed=Zh/\W.lookIn f o=Za (Za v):=by
 obtain⟨o,es,ep,g,gd,_,_,gm⟩:=n
 refine⟨o,g,(Heap.get?_some_iff.mp g).2,?_⟩
 have z:=gm f
 rw[e] at z
 unfold nsFind findBy at z
 obtain⟨en,q1,q2⟩:=Z5.mp z
 unfold W.lookIn
 rw[gd]
 dsimp only
 rw[Zdt,q1]
 exact congrArg (λ u=>Za (Za u)) q2
def xvOk:IV->Bool
 | .int _=>Zd
 | .ref _=>Zd
 | _=>Zh
def Ya (st:Str->Bool)(f:Str)(o e:E1):S1:=λ σ h=>rS σ (e σ h) λ v h1=>rS σ (o σ h1) λ ov h2=>match ov with
 | .ref i=>(match h2[i]? with
  | some (.exc c [])=>if st c&&xvOk v then .next σ (h2.set i (.exc c [(f,v)])) else .stuck
  | _=>.stuck)
 | _=>.stuck
section
variable {ce:CeT}{X:Cx}{o value:Expr}{mo mv:E1}{pos pos':Pos}{fl:Str}
theorem Jv1 {pj:PnT}{ι:List Zj}{σi:ISt}{h:IH}{σ:L2.St}{H:Hp}{s:Zk}{n:Nat}{a C:Zj}{c:Str}{y:IV}{u:Ze}{Q:Unit->Zk->Prop}{E:QvT}
  (hu:XV ι y u)(S:StoX X.K C fl)(hC:W.nsIn X.K Zm c=Za (Za (.ref C)))(N:Now ce X pj ι σi h σ H s)(hj:h[n]?=Za (.exc c []))(hi:ι[n]?=Za a)
  (go:∀s' H',Now ce X pj ι σi (h.set n (.exc c [(fl,y)])) σ H' s'->Nxt ι H ι H'->Q () s') :
  Zt (Z3 X.prog X.w) X.A (setAttr (.ref a) fl u) Q E s:=by
 obtain⟨C',tv,d,fe,hC',ha,ht⟩:=Vm N.rel hj hi
 rw[hC] at hC'
 cases hC'
 obtain⟨oe,vs,g1,g2,g3,g4,g5,g6⟩:=ExF.get N.inv.hok ha
 obtain rfl:d=Zc:=by
  rcases fe with⟨_,q⟩|⟨_,_,_,_,_,q,_⟩
  ·exact q
  ·cases q
 refine Jo6 S N.inv.kIn ⟨g1,g2,by unfold W.notCls;rw[g3],by rw[g6];trivial⟩ g6 λ h' t' x1 x2 x3=>?_
 obtain⟨oD,d1,d2,d3⟩:=Js7 x2 (if_pos rfl)
 have hn:H s.heap.objs.size=Zc:=N.inv.hok.fresh (Zr _)
 have ne:s.heap.objs.size≠a:=λ z=>by rw[z,ha] at hn;cases hn
 have dl:(s.heap.push oD).get? s.heap.objs.size=Za oD:=Zd7 rfl d2
 have I1:Inv X pj σ (upd H s.heap.objs.size (.frz oD (.own 0))) { s with heap:=s.heap.push oD,toks:=t' } :=
  N.inv.laid (λ b u q=>Zi _ q) (Zr _) ⟨dl,⟨_,dl⟩⟩
 obtain⟨R1,n1⟩:=N.rel.grow (o:=.frz oD (.own 0)) hn
 have ha1:upd H s.heap.objs.size (.frz oD (.own 0)) a=Za (ExF a C tv Zc):=by rw[Jl ne.symm];exact ha
 have mu:Mut (upd H s.heap.objs.size (.frz oD (.own 0)) a):=by rw[ha1];trivial
 obtain⟨R2,n2⟩:=R1.write hi ha1 mu (o:=ExF a C tv (Za s.heap.objs.size)) (io:=.exc c [(fl,y)])
  ⟨C,tv,Za s.heap.objs.size,.inr ⟨fl,y,s.heap.objs.size,oD,u,rfl,rfl,by rw[Jl ne,Jw],d3,hu⟩,hC,Jw,ht.mono λ b o u q=>by
   rw[Jl (λ z=>by subst z;rw[ha] at q;cases q),Jl (λ z=>by subst z;rw[hn] at q;cases q)]
   exact q⟩
 have I2:Inv X pj σ (upd (upd H s.heap.objs.size (.frz oD (.own 0))) a (ExF a C tv (Za s.heap.objs.size))) { s with heap:=h',toks:=t' } :=
  I1.write (x:=a) (e:=a) (t':=t') mu (.inl rfl) (λ b u nb q=>by
   by_cases z:b=s.heap.objs.size
   ·subst z
    rw[dl] at q
    cases q
    exact d1
   ·exact x3 b u nb ((Heap.get?_push_ne _ b _ z).symm.trans q)) ⟨_,x1⟩ (ExF.ok x1 g2 g3 g4 g5 rfl)
 exact go _ _ ⟨I2,R2,N.st.mono (n1.trans n2)⟩ (n1.trans n2)
theorem J0u {st:Str->Bool}(ho:PEi ce X o mo)(hv:PEi ce X value mv)(hx:∀c C,st c=Zd->W.nsIn X.K Zm c=Za (Za (.ref C))->StoX X.K C fl)(hs:ZcD value (Za (.Attribute o fl pos')) pos.line X.env=pure Zh:=by rfl) :
  PS1 ce X (.Assign [.Attribute o fl pos'] value pos) (Ya st fl mo mv):=by
 intro pj s σ H ι σi h Q E N K
 refine ZcS (krun hv N K λ v h1 u s1 H1 ι1 N1 n1 r1 K1=>krun ho N1 K1 λ ov h2 w s2 H2 ι2 N2 n2 r2 K2=>?_) hs
 cases ov with
 | ref i =>
  obtain⟨w,rw',a,e1,hi⟩:=r2
  subst e1
  cases rw'
  dsimp only at K2
  cases hh:h2[i]? with
  | none=>rw[hh] at K2;exact Zf K2
  | some ob =>
   rw[hh] at K2
   by_cases hb:∃c,ob=.exc c []
   ·obtain⟨c,rfl⟩:=hb
    dsimp only at K2
    split at K2
    ·rename_i hz
     obtain⟨hz,hv⟩:=Zdf.mp hz
     obtain⟨C,_,_,_,hC,_⟩:=Vm N2.rel hh hi
     refine Jv1 ?_ (hx c C hz hC) hC N2 hh hi λ s3 H3 N3 n3=>K2 s3 σ H3 ι2 N3 n3
     obtain⟨w1,rw1,e2⟩:=r1
     cases v with
     | int y=>cases e2;exact rw1
     | ref j =>
      obtain⟨b,rfl,q⟩:=e2
      obtain⟨⟨m,rfl⟩,_⟩:=n2
      exact⟨b,rw1,by rw[ZC (Zo.mp q).1];exact q⟩
     | _=>cases hv
    ·exact Zf K2
   ·cases ob with
    | exc c fs=>cases fs with
     | nil=>exact absurd ⟨c,rfl⟩ hb
     | cons _ _=>exact Zf K2
    | _=>exact Zf K2
 | _=>exact Zf K2
end
end L3
namespace L3
open PySem PySem.Spec PySem.Calls PyProof.Rows L2
section
variable {prog:ZA}{w:ZM}{A:ZG}{E:QvT}{s:Zk}{K:W.Frag}{x D:Zj}{ox od:Obj}{f:Str}{v:Ze}
theorem XV.nb {ι:List Zj}{y:IV}{u:Ze}(h:XV ι y u):∀id,u≠.builtin id:=by
 cases y with
 | int i=>obtain⟨t,rfl⟩:=h;exact nofun
 | ref j=>obtain⟨b,rfl,_⟩:=h;exact nofun
 | _=>cases h
end
section
variable {ce:CeT}{X:Cx}{o:Expr}{mo:E1}{pos:Pos}{fl:Str}
end
section
variable {ce:CeT}{X:Cx}
end
end L3
namespace L3
open PySem PySem.Spec PyProof.Rows L2
def PEw (ce:CeT)(X:Cx)(a:Zj)(n:Nat)(e:Expr)(m:E1):Prop :=
 ∀(pj:PnT)(s:Zk)(σ:L2.St)(H:Hp)(ι:List Zj)(σi:ISt)(h:IH)(Q:QvT)(E:QvT),Now ce (Jj X a) pj ι σi h σ H s->ι[n]?=Za a ->
  Kont ce (Jj X a) RU pj ι σi σ H (m σi h) Q E->Zt (Z3 X.prog X.w) (Jj X a).A (ZaQ e X.env) Q E s
theorem PEi.w {ce:CeT}{X:Cx}{a:Zj}{n:Nat}{e:Expr}{m:E1}(p:PEi ce (Jj X a) e m):PEw ce X a n e m:=λ pj s σ H ι σi h Q E N _ K=>p pj s σ H ι σi h Q E N K
section
variable {ce:CeT}{X:Cx}
end
section
variable {α β γ δ:Type}{ce:CeT}{X:Cx}{R:REL α β}{R':REL γ δ}{a:Zj}{n:Nat}
def PXw (ce:CeT)(X:Cx)(a:Zj)(n:Nat)(R:REL α β)(t:Sem β)(m:ISt->IH->Res α):Prop :=
 ∀(pj:PnT)(s:Zk)(σ:L2.St)(H:Hp)(ι:List Zj)(σi:ISt)(h:IH)(Q:β->Zk->Prop)(E:QvT),Now ce X pj ι σi h σ H s->ι[n]?=Za a->Kont ce X R pj ι σi σ H (m σi h) Q E->Zt (Z3 X.prog X.w) X.A t Q E s
def PSw (ce:CeT)(X:Cx)(a:Zj)(n:Nat)(t:Sem Flow)(m:S1):Prop :=
 ∀(pj:PnT)(s:Zk)(σ:L2.St)(H:Hp)(ι:List Zj)(σi:ISt)(h:IH)(Q:Flow->Zk->Prop)(E:QvT),Now ce X pj ι σi h σ H s->ι[n]?=Za a->JD ce X pj ι H (m σi h) Q E->Zt (Z3 X.prog X.w) X.A t Q E s
theorem PX.w {t:Sem β}{m:ISt->IH->Res α}(p:PX ce X R t m):PXw ce X a n R t m:=λ pj s σ H ι σi h Q E N _ K=>p pj s σ H ι σi h Q E N K
theorem PS2.w {l:List Zb2}{m:S1}(p:PS2 ce X l m):PSw ce X a n (execs l X.env) m:=λ pj s σ H ι σi h Q E N _ K=>p pj s σ H ι σi h Q E N K
theorem PS1.w {l:Zb2}{m:S1}(p:PS1 ce X l m):PSw ce X a n (exec l X.env) m:=λ pj s σ H ι σi h Q E N _ K=>p pj s σ H ι σi h Q E N K
theorem PXw.run {t:Sem β}{m:ISt->IH->Res α}(p:PXw ce X a n R t m){pj:PnT}{ι:List Zj}{σi:ISt}{σ:L2.St}{H:Hp}{s:Zk}{h:IH}(N:Now ce X pj ι σi h σ H s)(hi:ι[n]?=Za a){g:α->IH->Res γ}{Q:δ->Zk->Prop}{E:QvT}{Q1:β->Zk->Prop}
  (K:Kont ce X R' pj ι σi σ H ((m σi h).bind g) Q E)
  (step:∀x h1 u s1 H1 ι1,Now ce X pj ι1 σi h1 σ H1 s1->ι1[n]?=Za a->R X.K ι1 H1 x u->Kont ce X R' pj ι1 σi σ H1 (g x h1) Q E->Q1 u s1):Zt (Z3 X.prog X.w) X.A t Q1 E s:=by
 refine p pj s σ H ι σi h Q1 E N hi ?_
 cases e:m σi h with
 | stuck=>rw[e] at K;exact K
 | exc _ h'=>rw[e] at K;exact K
 | ok v h' =>
  rw[e] at K
  exact λ u s' H' ι' N' n' r=>step v h' u s' H' ι' N' (n'.at hi) r (Kont.mono (r:=g v h') K n')
variable {b c:Expr}{pos:Pos}{rest:List Expr}{ta tb:T1}{mb:E1}
end
section
variable {ce:CeT}{X:Cx}
section
variable {A:ZG}{R:ZdA->Zk->Prop}{Q:QvT}{E:QvT}{pj:PnT}{σi:ISt}{σ:L2.St}{G:Hp->Prop}{fq:Zj}{mk:IV->IH->Res IV}{gt:IV->IV->Option Bool}{i n:Nat}{l I C:Zj}{kw:List (Str×Ze)}
end
end
abbrev ivl (l:List (Int×Tok)):List Ze:=l.map λ p=>.int p.1 p.2
section
open PySem.AutoSeq1 (wpAny_loadPart')
open PySem.MeetsSeq PySem.MeetsSeq2 PySem.MeetsSeq3 PySem.SeqRoads2
end
section
variable {ce:CeT}{X:Cx}
end
def Jn8 (h:ZZ)(wrs:List Zj)(C:Zj)(k:Nat)(v:Ze)(ns:List Int):Prop:=∃a l,v=.ref a/\a∉wrs/\a≠C/\IsTup h a (ivl l).toArray/\l.map (·.1)=ns/\l.length=k
theorem Jn8.keeps {h h':ZZ}{wrs:List Zj}{C:Zj}{k:Nat}{v:Ze}{ns:List Int}(t:Jn8 h wrs C k v ns)(q:∀a o,a∉wrs->a≠C->h.get? a=Za o->h'.get? a=Za o):Jn8 h' wrs C k v ns:=by
 obtain⟨a,l,e,n1,n2,⟨o,ho,r⟩,e2,e3⟩:=t
 exact⟨a,l,e,n1,n2,⟨o,q a o n1 n2 ho,r⟩,e2,e3⟩
section
variable {pr:ZA}{wd:ZM}{B:ZG}{R:ZdA->Zk->Prop}{it:Zj}{fps wrs:List Zj}{n:Nat}{St:Nat->ZZ->Prop}
end
section
variable {pr:ZA}{wd:ZM}{B:ZG}{E:QvT}{z:Zk}{l:Zj}{us:List Ze}{k:Nat}{f:Nat->List Int}{Q:QvT}
end
section
variable {ce:CeT}{X:Cx}
end
end L3
namespace L3
open PySem PySem.Spec PyProof.Rows L2 PySem.W
def kRun {α:Type}(lt:Nat->Nat->Bool):KasT α->α
 | .ret a=>a
 | .ask i j k=>kRun lt (k (lt i j))
def Asks {α:Type}(n:Nat)(P:α->Prop):KasT α->Prop
 | .ret a=>P a
 | .ask i j k=>i<n/\j<n/\∀b,Asks n P (k b)
theorem Asks.mono {α:Type}{n:Nat}{P P':α->Prop}(f:∀a,P a->P' a):∀{t:KasT α},Asks n P t->Asks n P' t
 | .ret _,h=>f _ h
 | .ask _ _ _,⟨h1,h2,h3⟩=>⟨h1,h2,λ b=>Asks.mono f (h3 b)⟩
theorem Asks.bind {α β:Type}{n:Nat}{P:α->Prop}{P':β->Prop}{f:α->KasT β}(hf:∀a,P a->Asks n P' (f a)):∀{t:KasT α},Asks n P t->Asks n P' (t.bind f)
 | .ret _,h=>hf _ h
 | .ask _ _ _,⟨h1,h2,h3⟩=>⟨h1,h2,λ b=>Asks.bind hf (h3 b)⟩
theorem Asks.run {α:Type}{n:Nat}{P:α->Prop}{lt:Nat->Nat->Bool}:∀{t:KasT α},Asks n P t->P (kRun lt t)
 | .ret _,h=>h
 | .ask i j k,⟨_,_,h⟩=>Asks.run (t:=k (lt i j)) (h (lt i j))
theorem Asks.wp {α:Type}{n:Nat}{P:α->Prop}{lt:Nat->Nat->Bool}{cmp:Nat->Nat->(Bool->Zk->Prop)->Zk->Prop}{Q:α->Zk->Prop}{s:Zk}(hc:∀i j,i<n->j<n->∀C:Bool->Zk->Prop,C (lt i j) s->cmp i j C s) :
  ∀{t:KasT α},Asks n P t->Q (kRun lt t) s->t.kasWp cmp Q s
 | .ret _,_,q=>q
 | .ask i j k,⟨h1,h2,h3⟩,q=>hc i j h1 h2 _ (Asks.wp (t:=k (lt i j)) hc (h3 (lt i j)) q)
def Bd (n:Nat)(p:Array Nat):Prop:=0<n/\p.toList.Perm (Z8 n)
theorem Bd.at {n:Nat}{p:Array Nat}(h:Bd n p)(i:Nat):p.getD i 0<n:=by
 by_cases hi:i<p.size
 ·rw[Zdp,Zcr hi]
  have:p[i]∈p.toList:=by simp
  exact ZaP.mp (h.2.mem_iff.mp this)
 ·rw[Zdp,Array.getElem?_eq_none (by omega)]
  exact h.1
theorem Jhr {n:Nat}{p:Array Nat}(h:Bd n p):∀f m,Asks n (λ _=>True) (kas_asc p f m)
 | 0,_=>trivial
 | f+1,m=>⟨h.at _,h.at _,λ b=>by
   dsimp only
   split
   ·trivial
   ·exact Jhr h f _⟩
theorem Jes {n:Nat}{p:Array Nat}(h:Bd n p)(k:Nat):∀f l r,Asks n (λ _=>True) (kas_place p k f l r)
 | 0,_,_=>trivial
 | f+1,l,r=>by
  unfold kas_place
  split
  ·trivial
  ·exact⟨h.at _,h.at _,λ b=>by
    dsimp only
    split
    ·exact Jes h k f _ _
    ·exact Jes h k f _ _⟩
theorem Bd.perm {n:Nat}{p q:Array Nat}(h:Bd n p)(r:q.Perm p):Bd n q:=⟨h.1,(Array.perm_iff_toList_perm.mp r).trans h.2⟩
theorem Bd.rev {n:Nat}{p:Array Nat}(h:Bd n p)(i j:Nat):Bd n (kas_rev p i j):=h.perm (mirror_perm _ _ _ _)
theorem Jdl {n:Nat}:∀f (p:Array Nat) m q,Bd n p->Asks n (λ r=>Bd n r.1) (kas_desc f p m q)
 | 0,_,_,_,h=>h
 | f+1,p,m,q,h=>⟨h.at _,h.at _,λ b=>by
   dsimp only
   split
   ·split
    ·exact Jdl f _ _ _ (h.rev _ _)
    ·exact Jdl f _ _ _ h
   ·exact⟨h.at _,h.at _,λ d=>by
     dsimp only
     split
     ·exact h
     ·exact Jdl f _ _ _ h⟩⟩
theorem Jg4 {n:Nat}{p:Array Nat}(h:Bd n p)(m r:Nat):Asks n (λ r=>Bd n r.2) (ZeQ m r p):=by
 unfold ZeQ
 refine Asks.bind (P:=λ _=>True) (λ x _=>?_) (Jhr (h.rev _ _) _ _)
 exact h.rev _ _
theorem Jdm {n:Nat}{p:Array Nat}(h:Bd n p)(m r:Nat):Asks n (λ r=>Bd n r.2) (ZeH m r p) :=
 Asks.bind (λ x hx=>by
  split
  ·exact Jg4 (hx.rev _ _) _ _
  ·exact Jg4 hx _ _) (Jdl _ _ _ _ h)
theorem Jm3 {n:Nat}{p:Array Nat}(h:Bd n p)(r:Nat):Asks n (λ r=>Bd n r.2) (kas_count r p) :=
 Asks.bind (λ m _=>by
  split
  ·exact h
  ·split
   ·exact⟨h.at _,h.at _,λ b=>by
     dsimp only
     split
     ·exact h
     ·exact Jdm (h.rev _ _) _ _⟩
   ·exact Jdm h _ _) (Jhr h _ _)
theorem Jlk {n:Nat}:∀f (p:Array Nat) k,Bd n p->Asks n (Bd n) (kas_bin f p k)
 | 0,_,_,h=>h
 | f+1,p,k,h=>Asks.bind (λ l _=>Jlk f _ _ (h.perm (bubble_perm _ _ _))) (Jes h k _ _ _)
theorem Jft {n:Nat}(hn:0<n):Asks n (Bd n) (Zdg n) :=
 Asks.bind (λ r hr=>by
  split
  ·exact Jlk _ _ _ hr
  ·exact hr) (Jm3 ⟨hn,List.Perm.refl _⟩ n)
section
variable {prog:ZA}{w:ZM}{A:ZG}{E:QvT}{s:Zk}{b:Bool}{Q:Bool->Zk->Prop}
end
theorem Jtv {lt:Nat->Nat->Bool}(vs:List Ze)(h:vs.length<2):(kRun lt (Zdg vs.length)).toList.map (λ i=>vs.getD i ZK)=vs:=by
 match vs,h with
 | [],_=>simp[Zdg,kas_count,kas_asc,KasT.bind,ZeH,kas_desc,ZeQ,kRun,kas_rev,mirror,Array.swapIfInBounds]
 | [v],_ =>
  have:=(Jft (n:=1) (by decide)).run (lt:=lt)
  have e:(kRun lt (Zdg 1)).toList=[0]:=List.perm_singleton.mp this.2
  show(kRun lt (Zdg 1)).toList.map _=_
  rw[e]
  rfl
 | _::_::_,h=>simp at h;omega
section
variable {prog:ZA}{w:ZM}{A:ZG}{E:QvT}{s:Zk}
end
theorem Jkh {vs:List V}{us:List Ze}(r:Vals vs us):∀p:List Nat,(∀i∈p,i<vs.length)->Vals (p.map λ i=>vs.getD i .non) (p.map λ i=>us.getD i ZK)
 | [],_=>.nil
 | i::p,h=>by
  have hi:=h i (Zs ..)
  obtain⟨u,eu,ru⟩:=r.get (Zb hi)
  refine .cons ?_ (Jkh r p λ j hj=>h j (Zn _ hj))
  show L2.RelV (vs.getD i .non) (us.getD i ZK)
  rw[Zw,Zw,Zb hi,eu]
  exact ru
theorem Jma {K:W.Frag}{ι:List Zj}{H:Hp}{xs:List IV}{vs:List V}(r:RVs K ι H xs vs):∀p:List Nat,(∀i∈p,i<xs.length)->RVs K ι H (p.map λ i=>xs.getD i .non) (p.map λ i=>vs.getD i .non)
 | [],_=>rfl
 | i::p,h=>by
  have hi:=h i (Zs ..)
  obtain⟨v,ev,rv⟩:=r.get (Zb hi)
  refine⟨_,_,rfl,?_,Jma r p λ j hj=>h j (Zn _ hj)⟩
  show RV K ι H (xs.getD i .non) (vs.getD i .non)
  rw[Zw,Zw,Zb hi,ev]
  exact rv
section
variable {ce:CeT}{X:Cx}
end
section
variable {kf:Nat->Int}{p:Array Nat}{n i j:Nat}
abbrev ltF (kf:Nat->Int)(i j:Nat):Bool:=decide (kf i<kf j)
def kAt (kf:Nat->Int)(p:Array Nat)(i:Nat):Int:=kf (p.getD i 0)
def Ris (kf:Nat->Int)(p:Array Nat)(n:Nat):Prop:=∀i j,i<=j->j<n->kAt kf p i<=kAt kf p j
def Fal (kf:Nat->Int)(p:Array Nat)(n:Nat):Prop:=∀i j,i<=j->j<n->kAt kf p j<=kAt kf p i
theorem Ris.succ (h:Ris kf p n)(h1:1<=n)(q:kAt kf p (n-1)<=kAt kf p n):Ris kf p (n+1):=λ i j hij hj=>by
 by_cases e:j<n
 ·exact h i j hij e
 ·obtain rfl:j=n:=by omega
  by_cases e2:i=j
  ·subst e2;exact Zbm _
  ·exact Zbx (h i (j-1) (by omega) (by omega)) q
theorem Fal.succ (h:Fal kf p n)(h1:1<=n)(q:kAt kf p n<=kAt kf p (n-1)):Fal kf p (n+1):=λ i j hij hj=>by
 by_cases e:j<n
 ·exact h i j hij e
 ·obtain rfl:j=n:=by omega
  by_cases e2:i=j
  ·subst e2;exact Zbm _
  ·exact Zbx q (h i (j-1) (by omega) (by omega))
end
def ordK (ks:List Int)(n:Nat):List Nat:=(kRun (ltF λ i=>ks.getD i 0) (Zdg n)).toList
theorem Jgl (ks:List Int){n:Nat}(hn:0<n):(ordK ks n).Perm (Z8 n):=((Jft hn).run (lt:=ltF λ i=>ks.getD i 0)).2
theorem Jib (ks:List Int):ordK ks 0=[]:=by simp[ordK,Zdg,kas_count,kas_asc,KasT.bind,ZeH,kas_desc,ZeQ,kRun,kas_rev,mirror,Array.swapIfInBounds]
theorem Jqd (ks:List Int){n:Nat}:∀i∈ordK ks n,i<n:=by
 intro i hi
 rcases Zd0 n with e|e
 ·subst e
  rw[Jib] at hi
  cases hi
 ·exact ZaP.mp ((Jgl ks e).mem_iff.mp hi)
theorem Js9 (ks:List Int)(n:Nat):(ordK ks n).length=n:=by
 rcases Zd0 n with e|e
 ·subst e
  rw[Jib]
  rfl
 ·rw[(Jgl ks e).length_eq,Zbp]
theorem Jps {X:Cx}{pj:PnT}{σ:L2.St}{H:Hp}{s:Zk}{h':ZZ}{t':Nat}{it:Zj}{o:HO}(I:Inv X pj σ H s)(k:∀b u,b≠it->s.heap.get? b=Za u->h'.get? b=Za u)(F:FpOk X pj H it)(new:JF X.prog X.w (upd H it o) h' it o) :
  Inv X pj σ (upd H it o) { s with heap:=h',toks:=t' }:=by
 obtain⟨hn,hL,_,h1,h2,h3⟩:=F
 have nit:∀b u,H b=Za u->b≠it:=λ b u e z=>by rw[z,hn] at e;cases e
 refine I.step (g':=s.gens) (d':=s.drawn) (ch:=[it]) (λ b hb=>?_) (λ b o _ _ hc e _=>k b o (λ z=>hc (by simp[z])) e) (λ b o _ _ hc e _=>⟨o.slots,k b o (λ z=>hc (by simp[z])) e⟩) (λ b o hc _ n=>by rw[Jl (λ z=>hc (by simp[z]))];exact n)
  (λ b o hc e=>⟨o,k b o (λ z=>hc (by simp[z])) e⟩) (λ b _ e=>by rw[Jl (nit b _ e)];exact e) (λ b _ _ e=>by rw[Jl (nit b _ e)];exact e) (λ b ps e=>⟨#[],by rw[Jl (nit b _ e),e];simp⟩) (λ m hm=>?_) (λ b u e=>?_) I.bare
 ·have e:b=it:=by simpa using hb
  subst e
  exact⟨h1,hL,h2,h3⟩
 ·obtain⟨o,es,ep,ho,r⟩:=hm
  exact⟨o,es,ep,k _ o (ZT hL) ho,r⟩
 ·by_cases hb:b=it
  ·subst hb
   rw[Jw] at e
   cases e
   exact new
  ·rw[Jl hb] at e
   refine(I.hok b u e).stay (λ c v hc q=>k c v ?_ q) (λ c q=>by rw[Jl (nit c _ q)];exact q) λ c _ q=>by rw[Jl (nit c _ q)];exact q
   rcases hc with z|z
   ·rw[z];exact hb
   ·exact nit c _ z
def VF (mk:IV->IH->Res IV):List IV->List Int->IH->Res (List Int)
 | [],ks,h=>.ok ks h
 | y::r,ks,h=>(mk y h).nx.bind λ k h'=>match k with
  | .int n=>VF mk r (ks++[n]) h'
  | _=>.stuck
def rvB {α:Type}(b:Bool)(l:List α):List α:=if b then l.reverse else l
theorem QD {α:Type}{b:Bool}{l:List α}:(rvB b l).length=l.length:=by cases b;rfl;exact Zbu
def Jxs (b:Bool)(ys:List IV)(ks:List Int)(h:IH):Res IV:=.ok (.ref h.length) (h++[.lst (rvB b ((ordK ks ys.length).map λ i=>ys.getD i .non))])
def Xm (b:Bool)(ys:List IV)(ks:List Int)(h:IH):Res IV:=Jxs b (rvB b ys) (rvB b ks) h
theorem RVs.rvB {K:W.Frag}{ι:List Zj}{H:Hp}{b:Bool}{xs:List IV}{vs:List V}(h:RVs K ι H xs vs):RVs K ι H (L3.rvB b xs) (L3.rvB b vs):=by cases b;exact h;exact h.rev
theorem Jmk {b:Bool}{ws:List V}{its:List Ze}(h:Vals ws its):Vals (rvB b ws) (rvB b its):=by
 cases b
 ·exact h
 ·exact h.reverse
def Xn (mk:IV->IH->Res IV)(i:Nat)(h:IH):Res IV:=match h[i]? with
 | some (.lst ys)=>if ys.length<64 then(VF mk ys [] h).bind (Xm Zh ys) else .stuck
 | _=>.stuck
section
variable {ce:CeT}{X:Cx}
section
variable {A:ZG}{Q:QvT}{E:QvT}{P:PySem.Fin->Zk->Prop}{pj:PnT}{σi:ISt}{σ:L2.St}{G:Hp->Prop}{fq D kS:Zj}{mk:IV->IH->Res IV}{ys:List IV}{ws:List V}{its:List Ze}{ks:List Int}{e e1:Nat}{H:Hp}{ι:List Zj}{h:IH}{s:Zk}
theorem Jme {b:Bool}{kA:Array Ze}{st:SortSt}(N:Now ce X pj ι σi h σ H s)(fD:FpOk X pj H D)(fK:FpOk X pj H kS)(hDK:D≠kS)(gD:s.heap.get? D=Za (Zas "list" #[] e1))(gK:s.heap.get? kS=Za (Zas "list" kA e))(hz:kA.size<64)
  (rv:Vals ws its)(r3:RVs X.K ι H ys ws)(h64:ys.length<64)(hout:(arrOf st).map (·.2)=Zby ((ordK ks ys.length).map λ i=>its.getD i ZK))(hf:failedOf st=Zc)(hP:∀s',Q (.ref D) s'->P (.done (.ret .none)) s')(K:Kont ce X RU pj ι σi σ H (Jxs b ys ks h) Q E) :
  Zt (Z3 X.prog X.w) A (ksk_tail D b e1 (.ref kS) st) P E s:=by
 have lo:=Js9 ks ys.length
 have lt:=Jqd ks (n:=ys.length)
 have l1:=r3.length
 have l2:=rv.length
 have s1:∀b u,b≠kS->s.heap.get? b=Za u->(s.heap.update kS (Zat λ _=>(#[]:Array Ze))).get? b=Za u:=λ b u nb q=>(Zy _ _ (ZT nb)).trans q
 have gD1:=s1 D _ hDK gD
 have N1:=N.turned (h':=s.heap.update kS (Zat λ _=>(#[]:Array Ze))) (t':=s.toks) fK s1
 have hsz:(Zby (rvB b ((ordK ks ys.length).map λ i=>its.getD i ZK))).size=ys.length:=by rw[Z2,QD,Zp,lo]
 have hrv:(if b=Zd then(Zby ((ordK ks ys.length).map λ i=>its.getD i ZK)).reverse else Zby ((ordK ks ys.length).map λ i=>its.getD i ZK))=Zby (rvB b ((ordK ks ys.length).map λ i=>its.getD i ZK)):=by cases b<;>simp[rvB]
 unfold ksk_tail
 try dsimp only
 rw[hout,hrv]
 refine Zg (ZdG gK rfl ?_ (by rw[ZaU];omega) (Zaa _))
 refine Zg (ZbG ?_)
 refine Zg (seqEpoch_at gD1 rfl ?_)
 refine Zg (ZdG gD1 rfl ?_ (Zaa _) (by rw[hsz,ZaU];omega))
 rw[hf]
 simp only[bne_self_eq_false,Zac,if_false]
 refine Zv (hP _ ?_)
 obtain⟨c2,hc2⟩:∃c2,((s.heap.update kS (Zat λ _=>(#[]:Array Ze))).update D (Zat λ _=>Zby (rvB b ((ordK ks ys.length).map λ i=>its.getD i ZK)))).get? D=Za (Zas "list" (Zby (rvB b ((ordK ks ys.length).map λ i=>its.getD i ZK))) c2):=⟨_,Zc1 gD1 λ _=>Zby (rvB b ((ordK ks ys.length).map λ i=>its.getD i ZK))⟩
 have hl:(rvB b ((ordK ks ys.length).map λ i=>ws.getD i V.non)).length<=sizeLine:=by rw[QD,Zp,lo,ZaU];omega
 have I':=Jps N1.inv (o:=.lst (rvB b ((ordK ks ys.length).map λ i=>ws.getD i V.non))) (h':=(s.heap.update kS (Zat λ _=>(#[]:Array Ze))).update D (Zat λ _=>Zby (rvB b ((ordK ks ys.length).map λ i=>its.getD i ZK)))) (t':=s.toks) (λ b u nb q=>(Zy _ _ (ZT nb)).trans q) fD
  ⟨hl,rvB b ((ordK ks ys.length).map λ i=>its.getD i ZK),c2,Jmk (Jkh rv _ (λ i hi=>by have:=lt i hi;omega)),hc2⟩
 exact finA N1 K D fD.1 ⟨_,Jw,RVs.new fD.1 (Jma r3 _ lt).rvB⟩ _ _ I' rfl
theorem Jti {b:Bool}{us:List Ze}{ns:List Int}(h:Zca us ns):Zca (rvB b us) (rvB b ns):=by
 cases b
 ·exact h
 ·exact h.reverse
theorem Jyr {b:Bool}{kA:Array Ze}{its:List Ze}(h:kA.size=its.length):(if b=Zd then(kA.zip its.toArray).reverse else kA.zip its.toArray)=(rvB b kA.toList).toArray.zip (rvB b its).toArray:=by
 cases b with
 | false=>simp[rvB]
 | true =>
  apply Array.toList_inj.mp
  simp only[rvB,if_true,Array.toList_reverse,Array.toList_zip]
  exact List.reverse_zipWith (by simpa using h)
theorem Jxt {b:Bool}{kA:Array Ze}(N:Now ce X pj ι σi h σ H s)(fD:FpOk X pj H D)(fK:FpOk X pj H kS)(hDK:D≠kS)(gD:s.heap.get? D=Za (Zas "list" #[] e1))(gK:s.heap.get? kS=Za (Zas "list" kA e))(hk:Zca kA.toList ks)(lk:ks.length=ys.length)
  (rv:Vals ws its)(r3:RVs X.K ι H ys ws)(h64:ys.length<64)(hP:∀s',Q (.ref D) s'->P (.done (.ret .none)) s')(K:Kont ce X RU pj ι σi σ H (Xm b ys ks h) Q E) :
  Zt (Z3 X.prog X.w) A (ksk_end D b its.toArray e1 (.ref kS) kA) P E s:=by
 have l1:=r3.length
 have l2:=rv.length
 have l3:=hk.length
 have hz:kA.size=its.length:=by rw[<- Zbs];omega
 have step:∀t:Sem PySem.Fin,Zt (Z3 X.prog X.w) A t P E s->Zt (Z3 X.prog X.w) A (if b=Zd then(do let _<-rule "list.sort.reverse";t) else t) P E s:=by
  intro t ht
  split
  ·exact Zg (Zeb ht)
  ·exact ht
 unfold ksk_end
 try dsimp only
 refine step _ ?_
 rw[Jyr hz]
 have rv':=Jmk (b:=b) rv
 have r3':=r3.rvB (b:=b)
 have hk':=Jti (b:=b) hk
 have h64':(rvB b ys).length<64:=by rw[QD];exact h64
 have K:Kont ce X RU pj ι σi σ H (Jxs b (rvB b ys) (rvB b ks) h) Q E:=K
 have ly:(rvB b ys).length=(rvB b its).length:=by rw[QD,QD];omega
 have lk':(rvB b ks).length=(rvB b its).length:=by rw[QD,QD];omega
 have l4:(rvB b kA.toList).length=(rvB b its).length:=by rw[QD,QD,Zbs,hz]
 have z2:its.toArray.size=(rvB b its).length:=by rw[QD,Z2]
 by_cases h2:its.toArray.size<2
 ·rw[if_pos h2,if_pos h2]
  refine Zg (Zv ?_)
  rw[StateT.run_pure]
  refine Zg (Zv ?_)
  try dsimp only
  refine Jme N fD fK hDK gD gK (by omega) rv' r3' h64' ?_ rfl hP K
  generalize rvB b its=its at *
  generalize rvB b kA.toList=kl at *
  have e1:(arrOf (SortSt.mk' general' (kl.toArray.zip its.toArray) #[] 7 Zc)).map (·.2)=its.toArray:=by
   apply Array.toList_inj.mp
   show((kl.toArray.zip its.toArray).map (·.2)).toList=_
   rw[Array.toList_map,ksk_zip]
   exact List.map_snd_zip (by rw[List.toList_toArray];omega)
  rw[e1,ly]
  exact congrArg Zby (Jtv (lt:=ltF λ i=>(rvB b ks).getD i 0) its (by omega)).symm
 ·rw[if_neg h2,if_neg h2]
  rw[Z2] at h2
  rw[ksk_kind hk (by omega)]
  refine Zg (Zv ?_)
  have zk:kA.size<64:=by omega
  have n0:¬(rvB b its).length<2:=by rw[QD];exact h2
  generalize rvB b its=its at *
  generalize rvB b kA.toList=kl at *
  generalize rvB b ks=ks at *
  generalize rvB b ys=ys at *
  generalize rvB b ws=ws at *
  have sp:=Jft (n:=its.length) (by omega)
  refine Zg (ZP (kat_run (ks:=kl) (vs:=its) (Q:=λ st' s'=>s'=s/\failedOf st'=Zc/\arrOf st'=(kRun (ltF λ i=>ks.getD i 0) (Zdg its.length)).map (kas_item (kl.toArray.zip its.toArray))) (G:=λ p s'=>s'=s/\p=kRun (ltF λ i=>ks.getD i 0) (Zdg its.length)) l4 (by omega) (by omega)
   (λ p st' s' a1 a2 a3 a4=>⟨a4.1,a3,a4.2▸a2⟩) (Asks.wp (n:=its.length) (lt:=ltF λ i=>ks.getD i 0) (λ i j hi hj C hC=>?_) sp ⟨rfl,rfl⟩)) ?_ λ _ _ e=>e)
  ·unfold kas_ask
   obtain⟨t1,e1⟩:=hk'.get i _ (Zb (show i<ks.length by omega))
   obtain⟨t2,e2⟩:=hk'.get j _ (Zb (show j<ks.length by omega))
   rw[Zw,Zw,e1,e2]
   refine kat_lt_int ?_
   have hC:C (decide (ks.getD i 0<ks.getD j 0)) s:=hC
   rw[Zw,Zw,Zb (show i<ks.length by omega),Zb (show j<ks.length by omega)] at hC
   exact hC
  ·rintro⟨⟨⟩,st'⟩ s' ⟨rfl,hfl,har⟩
   try dsimp only
   refine Jme N fD fK hDK gD gK zk rv' r3' h64' ?_ hfl hP K
   rw[kat_snds (ks:=kl) (vs:=its) l4 har,ly]
   rfl
theorem Jtx {b:Bool}(ko:XB ce X A σi σ pj G (.ref fq) mk)(hG:∀H H',Ext H H'->G H->G H')(N:Now ce X pj ι σi h σ H s)(g:G H)(fD:FpOk X pj H D)(fK:FpOk X pj H kS)(hDK:D≠kS)(gD:s.heap.get? D=Za (Zas "list" #[] e1))(gK:s.heap.get? kS=Za (Zas "list" #[] 0))
  (rv:Vals ws its)(r3:RVs X.K ι H ys ws)(h64:ys.length<64)(hP:∀s',Q (.ref D) s'->P (.done (.ret .none)) s')(K:Kont ce X RU pj ι σi σ H ((VF mk ys [] h).bind (Xm b ys)) Q E) :
  Zt (Z3 X.prog X.w) A (ksk_rest D (.ref fq) b its.toArray e1 (.ref kS)) P E s:=by
 have l1:=r3.length
 have l2:=rv.length
 unfold ksk_rest
 refine Zg (Zeb ?_)
 rw[List.forIn_toArray]
 refine Zg (ksk_fold (λ j s'=>∃H' ι' h' ks kA e,Now ce X pj ι' σi h' σ H' s'/\G H'/\Nxt ι H ι' H'/\s'.heap.get? D=Za (Zas "list" #[] e1)/\s'.heap.get? kS=Za (Zas "list" kA e)/\Zca kA.toList ks/\ks.length=j/\H' D=Zc/\H' kS=Zc/\Kont ce X RU pj ι' σi σ H' ((VF mk (ys.drop j) ks h').bind (Xm b ys)) Q E) its 0 s
  ⟨H,ι,h,[],#[],0,N,g,.refl,gD,gK,.nil,rfl,fD.1,fK.1,K⟩ ?step ?done)
 case step =>
  rintro j x s' hx ⟨H',ι',h',ks,kA,e,N',g',n',gD',gK',hk,hlj,hD',hK',K'⟩
  simp only[ZeI] at hlj K' ⊢
  have fD':=FpOk.at fD hD'
  have fK':=FpOk.at fK hK'
  obtain⟨xv,ex,rx⟩:=Jk8 rv hx
  obtain⟨yv,eyv,qy⟩:=(r3.mono n').get' ex
  have hj:j<ys.length:=(Zo.mp eyv).1
  have ed:ys.drop j=yv::ys.drop (j+1):=by
   rw[Zay hj,(Zo.mp eyv).2]
  rw[ed] at K'
  have K':Kont ce X RU pj ι' σi σ H' (((mk yv h').nx.bind λ k h''=>match k with|.int n=>VF mk (ys.drop (j+1)) (ks++[n]) h''|_=>.stuck).bind (Xm b ys)) Q E:=K'
  rw[Res.bind_bind] at K'
  have hz:kA.size=j:=by rw[<- Zbs,hk.length,hlj]
  have N2:=(N'.pinO gK' fK' λ v z=>by cases z).pinO gD' (FpOk.more (p:=(kS,Zas "list" kA e)) fD' (ZT hDK)) λ v z=>by cases z
  rw[ZF] at N2
  refine Zg (Ze1 (nof (ko _ _ _ _ _ yv x _ N2 g' ⟨xv,rx,qy⟩ (Jp9 K' λ k h3 u s3 H3 ι3 N3 n3 ru K3=>?_))))
  have pK:=N3.inv.pin (kS,Zas "list" kA e) (Zx _ (Zx _ (by simp)))
  have pD:=N3.inv.pin (D,Zas "list" #[] e1) (Zx _ (Zx _ (by simp)))
  have N4:=N3.pins
  cases k with
  | int n =>
   obtain⟨v,rv',ev⟩:=ru
   have ev:v=.int n:=ev
   subst ev
   obtain⟨t,rfl⟩:=rv'
   try dsimp only
   refine Zg (ZdG pK.1 rfl ?_ (by rw[ZaU];omega) (Zal (ZcJ (Array.size_push ..)) (by rw[ZaU];omega)))
   obtain⟨c2,hc2⟩:∃c2,(s3.heap.update kS (Zat (·.push (.int n t)))).get? kS=Za (Zas "list" (kA.push (.int n t)) c2):=⟨_,Zc1 pK.1 (·.push (.int n t))⟩
   have s1:∀b u,b≠kS->s3.heap.get? b=Za u->(s3.heap.update kS (Zat (·.push (.int n t)))).get? b=Za u:=λ b u nb q=>(Zy _ _ (ZT nb)).trans q
   have N5:=N4.turned (h':=s3.heap.update kS (Zat (·.push (.int n t)))) (t':=s3.toks) (FpOk.at fK pK.2.1) s1
   refine Zv ⟨rfl,H3,ι3,h3,ks++[n],kA.push (.int n t),c2,N5,hG _ _ n3.ext g',n'.trans n3,s1 D _ hDK pD.1,hc2,by rw[Array.toList_push];exact ksk_snoc hk,by simp[hlj],pD.2.1,pK.2.1,K3⟩
  | _=>exact Zf K3
 case done =>
  rintro s' ⟨H',ι',h',ks,kA,e,N',g',n',gD',gK',hk,hlj,hD',hK',K'⟩
  rw[ZeI] at hlj K'
  rw[List.drop_of_length_le (by omega)] at K'
  try dsimp only
  refine Zg (listItems_at gK' rfl ?_)
  exact Jxt N' (FpOk.at fD hD') (FpOk.at fK hK') hDK gD' gK' hk (by omega) rv (r3.mono n') h64 hP K'
theorem Jxu {b:Bool}{kw:List (Str×Ze)}{B:ZG}{h2:ZZ}{tk:Nat}(hkw:∀a,ZcO.«list.sort» ⟨[.ref a],kw⟩=ksk_tree a (.ref fq) b)(hak:∀a,argsOk "list.sort" ⟨[a],kw⟩)(ko:XB ce X B.in1 σi σ pj G (.ref fq) mk)(hG:∀H H',Ext H H'->G H->G H')(N:Now ce X pj ι σi h σ H s)(g:G H)
  (keep:∀b o,s.heap.get? b=Za o->h2.get? b=Za o)(le0:s.heap.objs.size<=h2.objs.size)(rv2:Vals ws its)(r3:RVs X.K ι H ys ws)(h64:ys.length<64)(hP:∀D s',Q (.ref D) s'->P (.done (.ret (.ref D))) s')
  (K:Kont ce X RU pj ι σi σ H ((VF mk ys [] h).bind (Xm b ys)) Q E):Zt (Z3 X.prog X.w) B (do let l<-newList its;let _<-Zdb [l] (call (.builtin "list.sort") [l] kw);ret l) P E { s with heap:=h2,toks:=tk }:=by
 have l1:=r3.length
 have l2:=rv2.length
 refine Zg (ZdF ?_ (by rw[ZaU];omega))
 have hoL:(h2.push (Zas "list" its.toArray 0)).get? h2.objs.size=Za (Zas "list" its.toArray 0):=Z1 _ rfl
 have keep3:∀b o,s.heap.get? b=Za o->(h2.push (Zas "list" its.toArray 0)).get? b=Za o:=λ b o q=>Zi _ (keep b o q)
 have sz3:(h2.push (Zas "list" its.toArray 0)).objs.size=h2.objs.size+1:=Zdz ..
 show Zt _ _ _ _ _ { s with heap:=h2.push (Zas "list" its.toArray 0),toks:=tk }
 generalize h2.push (Zas "list" its.toArray 0)=h3 at hoL keep3 sz3
 refine Zg (Zam (wpAny_call_entry_kw slot_list_sort ⟨_,hoL,rfl⟩ entry_list_sort ?body (hak _)))
 case body =>
  show Zt (Z3 X.prog X.w) B.in1 (ZcO.«list.sort» ⟨[.ref h2.objs.size],kw⟩) _ _ _
  rw[hkw]
  unfold ksk_tree
  refine Zg (listItems_at hoL rfl ?_)
  refine Zg (ZdG hoL rfl ?_ (by rw[Z2,ZaU];omega) (Zaa _))
  obtain⟨ep,ho1⟩:∃ep,(h3.update h2.objs.size (Zat λ _=>(#[]:Array Ze))).get? h2.objs.size=Za (Zas "list" #[] ep):=⟨_,Zc1 hoL λ _=>#[]⟩
  refine Zg (seqEpoch_at ho1 rfl ?_)
  refine Zg (wpAny_newTuple ?_ (by show its.length<=_;rw[ZaU];omega))
  refine Zg (ZdF ?_ (Zaa _))
  refine Zam ?_
  have sz5:((h3.update h2.objs.size (Zat λ _=>(#[]:Array Ze))).push (Zas "tuple" its.toArray 0)).objs.size=h2.objs.size+2:=by rw[Zdz,Heap.size_update,sz3]
  obtain⟨kS,hkS⟩:∃kS,kS=((h3.update h2.objs.size (Zat λ _=>(#[]:Array Ze))).push (Zas "tuple" its.toArray 0)).objs.size:=⟨_,rfl⟩
  have gK:(((h3.update h2.objs.size (Zat λ _=>(#[]:Array Ze))).push (Zas "tuple" its.toArray 0)).push (Zas "list" #[] 0)).get? kS=Za (Zas "list" #[] 0):=by rw[hkS];exact Z1 _ rfl
  have gD:(((h3.update h2.objs.size (Zat λ _=>(#[]:Array Ze))).push (Zas "tuple" its.toArray 0)).push (Zas "list" #[] 0)).get? h2.objs.size=Za (Zas "list" #[] ep):=Zi _ (Zi _ ho1)
  have old:∀b o,s.heap.get? b=Za o->(((h3.update h2.objs.size (Zat λ _=>(#[]:Array Ze))).push (Zas "tuple" its.toArray 0)).push (Zas "list" #[] 0)).get? b=Za o:=λ b o q=>Zi _ (Zi _ ((Zy _ _ (Zbi (ZJ (Z0 q) le0))).trans (keep3 b o q)))
  rw[<- hkS]
  rw[sz5] at hkS
  have fD:FpOk X pj H h2.objs.size:=N.inv.fpOk le0 (N.inv.hok.fresh le0)
  have le:s.heap.objs.size<=kS:=by rw[hkS];exact Zal le0 (Nat.le_add_right _ _)
  have fK:FpOk X pj H kS:=N.inv.fpOk le (N.inv.hok.fresh le)
  exact Jtx ko hG (N.keptH (t':=tk) old) g fD fK (by rw[hkS];exact Z6 (Nat.lt_add_of_pos_right (by decide))) gD gK rv2 r3 h64 (λ s' q=>⟨_,rfl,Zv (hP _ _ q)⟩) K
theorem Jtw {i:Nat}{l:Zj}(ko:XB ce X A.in1.in1 σi σ pj G (.ref fq) mk)(hG:∀H H',Ext H H'->G H->G H')(N:Now ce X pj ι σi h σ H s)(g:G H)(hi:ι[i]?=Za l)
  (K:Kont ce X RU pj ι σi σ H (Xn mk i h) Q E):Zt (Z3 X.prog X.w) A (call (.builtin "sorted") [.ref l] [(Zar "key",.ref fq)]) Q E s:=by
 unfold Xn at K
 cases eh:h[i]? with
 | none=>rw[eh] at K;exact Zf K
 | some ob =>
  rw[eh] at K
  cases ob with
  | lst ys =>
   dsimp only at K
   split at K
   ·rename_i h64
    obtain⟨ws,e1,r3⟩:=N.at eh hi
    obtain⟨its,rv2,pl,_⟩:=N.inv.list (SqL.of e1)
    have hl:=pl.isList
    have l1:=r3.length
    have l2:=rv2.length
    refine call_function_entry_kw kind_sorted plain_sorted entry_sorted (ksk_s1 _ _) ?_
    unfold ZcO.«sorted»
    refine Zg (m:=checkCount "sorted" 1 1 _) (Zv ?_)
    refine Zg (collect_list hl ?_ (by rw[ZaU];omega))
    refine Jxu (P:=_) (tk:=s.toks) (λ a=>ksk_t1 fq a) (λ a=>ksk_l1 a _) ko hG N g (λ b o q=>?_) ?_ rv2 r3 h64 (λ D s' q=>⟨_,rfl,q⟩) K
    ·have hlt:b<s.heap.objs.size:=Z0 q
     rw[Zdm _ _ _ _ (Z6 hlt),Heap.get?_push_ne _ _ _ (Z6 hlt)]
     exact q
    ·rw[Heap.size_update,Zdz]
     exact ZaC _
   ·exact Zf K
  | _=>exact Zf K
end
def Xb (q:Str)(j:Nat)(js:List Nat)(aa:A1)(m:E1):E1:=λ σ h=>(aa σ h).bind λ xs h1=>match h1[j]? with
 | some (.tab q')=>if q'=q then(match xs with
  | [.ref i]=>Xn (λ v h'=>m (Za v::js.map λ j=>(σ[j]?).join) h') i h1
  | _=>.stuck) else .stuck
 | _=>.stuck
theorem Jwo {k:Nat}{q x:Str}{caps:List Str}{js:List Nat}{j:Nat}{a body:Expr}{aa:A1}{m:E1}{params:ZcB}{scope:ZaY}{p lp pos kp:Pos}(hg:Gl X "sorted")(hm:X.mg "sorted"=Zc)(ha:PAi ce X [a] aa)(hs:Z9 [a] X.env=[(Zh,ZaQ a X.env)])
  (hr:Room (k+3) X.A)(hcd:W.codeIn X.K X.env.code q=Zd)(hq:X.env.qual=q++".<locals>.")(B:Qs X.mg X.base)(hx:QO params=Za x)(S:LamSc X.N X.env.scope.names x caps js scope)
  (hb:∀f cd s' H',PEi ce (cxL X X.A.in1.in1 (x::caps) q scope f cd s' H') body m) :
  PEi ce X (.Call (.Name "sorted" p) [a] [⟨Za "key",.Lambda params body scope lp,kp⟩] pos) (Xb q j js aa m):=λ pj s σ H ι σi h Q E N K=>by
 have hcl:Zdx scope X.env=pure (clOf X.env.cells scope.names []):=Jbn λ y hm hk=>N.inv.ok.has y.1 (.inl (S.free y hm hk))
 refine ZQ (Qf N.inv hg hm rfl ?_)
 refine callWith_kw ?_ (by rw[hs];rfl) (by rw[hs];rfl) rfl rfl
 refine(ha pos).run N K λ xs h1 us s1 H1 ι1 N1 n1 r1 K1=>?_
 cases ej:h1[j]? with
 | none=>rw[ej] at K1;exact Zf K1
 | some ob =>
  rw[ej] at K1
  cases ob with
  | tab q' =>
   dsimp only at K1
   split at K1
   ·rename_i eq
    subst eq
    refine Zb9 (Zg (Jl3 N1 ej hcd hq (Jl2 hx) hcl B λ f c pm ctv s2 H2 N2 n2 LC=>Zg (Zbz (Zv ?_))))
    refine Zcv ?_
    have K3:=Kont.more (pl:=[(f,lamO q' params body scope (clOf X.env.cells scope.names []) pm ctv c)]) (Kont.mono K1 n2)
    obtain⟨vs,rv,qs⟩:=r1.mono n2
    match xs,K3 with
    | [.ref i],K3 =>
     obtain⟨w,rfl,ad,rfl,hav⟩:=qs.one_of
     obtain⟨u,rfl,ru⟩:=Qk rv
     cases ru
     refine Jtw (G:=λ H=>Q7 H q' (.ref c)) (mk:=λ v h'=>m (Za v::js.map λ j=>(σi[j]?).join) h') ?_ (λ H H' e g=>g.mono e.frzs) N2 LC hav ?_
     ·intro pl s4 H4 ι4 h4 v u Q4 N4 g4 ru4 K4
      have pf:=N4.inv.pin (f,lamO q' params body scope (clOf X.env.cells scope.names []) pm ctv c) (Zx _ (Zao _ (Zx _ (ZE.mpr rfl))))
      exact Jp0 (A:=X.A.in1.in1) N.inv.ok.frames hr.in1.in1 N4 pf.1 g4 hx S (hb f (.ref c)) ru4 K4
     ·exact K3
    | [],K3=>exact Zf K3
    | [.non],K3=>exact Zf K3
    | [.bl _],K3=>exact Zf K3
    | [.int _],K3=>exact Zf K3
    | [.str _],K3=>exact Zf K3
    | [.tup _],K3=>exact Zf K3
    | [.rol _],K3=>exact Zf K3
    | x::_::_,K3=>cases x<;>exact Zf K3
   ·exact Zf K1
  | _=>exact Zf K1
end
def XU (x:IV)(h:IH):Option (Nat×List IV):=match x with
 | .ref i=>(match h[i]? with
  | some (.lst xs)=>Za (i,xs)
  | _=>Zc)
 | _=>Zc
theorem Jnp {x:IV}{h:IH}{i:Nat}{xs:List IV}(e:XU x h=Za (i,xs)):x=.ref i/\h[i]?=Za (.lst xs):=by
 unfold XU at e
 split at e
 ·split at e
  ·rename_i q
   cases e
   exact⟨rfl,q⟩
  ·cases e
 ·cases e
def Xk (x:IV)(as:List IV)(h:IH):Res IV:=match XU x h,as with
 | some (i,xs),[.int k]=>(match Qb xs with
  | some ns=>(match ns.findIdx? (· ==k) with
   | some j=>.ok .non (h.set i (.lst (xs.eraseIdx j)))
   | none=>.stuck)
  | none=>.stuck)
 | _,_=>.stuck
section
variable {ce:CeT}{X:Cx}
theorem Js0:MtI ce X "list" "list.remove" Xk:=by
 intro pj s σ H ι σi h x xs v us Q E N rx rs K
 unfold Xk at K
 split at K
 ·rename_i i zs k e
  obtain⟨rfl,hi⟩:=Jnp e
  split at K
  ·rename_i ns hb
   split at K
   ·rename_i j hj
    obtain⟨xv,rx,a,rfl,ha⟩:=rx
    obtain⟨vs,rv,qs⟩:=rs
    obtain⟨w,rfl,qw⟩:=qs.one_of
    cases (show w=.int k from qw)
    obtain⟨u,rfl,t,rfl⟩:=Qk rv
    cases rx
    obtain⟨ws,e1,r1⟩:=N.at hi ha
    obtain⟨z,its,n,r,hl,eo⟩:=N.inv.lstM e1
    have are:=XR hb r1 r
    have ln:=Jb0 are
    obtain⟨hlt,hp,hno⟩:=Za5.mp hj
    have at_:∀m (hm:m<its.toArray.size),∃t,its.toArray[m]=.int (ns.getD m 0) t:=λ m hm=>IntsAre.int_at are m _ (by simp at hm;simp[hm])
    refine Zdv F.slot_list_remove ⟨_,eo,rfl⟩ F.entry_list_remove (F.args_list_remove_2 _ _)
     (MeetsSeq.list_remove a its.toArray n (.int k t) (isK k) (λ y hy=>?_) j (by simp;omega) ?_ (λ m hm hmj=>?_) (by rw[Z2];omega)) ⟨eo,?_⟩
    ·obtain⟨m,hm,rfl⟩:=Zem.mp hy
     obtain⟨t',e⟩:=at_ m hm
     rw[e]
     exact MeetsSeq.EqGives.int _ _ _ _
    ·obtain⟨t',e⟩:=at_ j (by simp;omega)
     rw[e]
     simpa [isK,Zw,hlt] using hp
    ·obtain⟨t',e⟩:=at_ m hm
     rw[e]
     have:=hno m hmj
     have hm2:m<ns.length:=by omega
     simpa [isK,Zw,hm2] using this
    ·exact finW (ys:=zs.eraseIdx j) (ws:=ws.eraseIdx j) N K ha e1 (r1.erase _) rfl _ _ (N.inv.lset (its':=its.eraseIdx j) e1 eo (by rw[List.eraseIdxIfInBounds_toArray]) (r.eraseIdx j) (by have:=Jjr ws j;omega)) rfl
   ·exact Zf K
  ·exact Zf K
 ·exact Zf K
end
section
variable {pr:ZA}{wd:ZM}{A:ZG}{E:QvT}{s:Zk}
end
section
variable {ce:CeT}{X:Cx}
end
end L3
namespace L3
open PySem PySem.Spec PyProof.Rows L2
def Itv (K:W.Frag)(a:Zj)(n:Nat):It :=
 ⟨λ i H=>∃xs x,SqL K H a xs/\xs.length=n/\xs.reverse[i]?=Za x,λ i H x H'=>H'=H/\∀xs,SqL K H a xs->xs.reverse[i]?=Za x,λ i _=>n<=i⟩
theorem Jt0 {P:ZA}{w:ZM}{K:W.Frag}{tg:Expr}(a it:Zj)(n:Nat):Turn P w K tg (Itv K a n) [it] it (λ i h=>i<=n/\h.IsRevIter it a ((n:Int)-1-i)) where
 mem:=by simp
 obj:=λ i h st b hb=>by
  have e:b=it:=by simpa using hb
  subst e
  obtain⟨_,o,e,c,d⟩:=st
  exact⟨o,e,λ v z=>by rw[d] at z;cases z⟩
 keep:=λ i h h' st k=>⟨st.1,st.2.at λ o e=>k it (by simp) o e⟩
 item:=by
  intro X hP hw hK hc i pj s σ H E I hf st hg
  subst hP hw hK
  obtain⟨xs,x,hq,hl,hx⟩:=hg
  obtain⟨its,rv,p,hz⟩:=I.list hq
  have li:i<n:=by
   have:=(Zo.mp hx).1
   rw[Zbu] at this
   omega
  rw[ZbY (by omega),hl] at hx
  obtain⟨u,hu,ru⟩:=rv.get hx
  obtain⟨f0,f1,f2,f3,f4,f5⟩:=hf it (by simp)
  have st2:=st.2
  rw[show(n:Int)-1-i=((n-1-i:Nat):Int) by omega] at st2
  refine wpAny_pyNext_rev_item st2 p.isList (x:=u) (by simpa using hu) λ h' st' sb=>?_
  have I1:Inv X pj σ H { s with heap:=h' }:=I.turned (t':=s.toks) (λ b o hb e=>(sb.2 b hb).trans e) f0 f1 f3 f4 f5
  obtain⟨o,e,c,d⟩:=id st'
  refine⟨u,rfl,Xe (s:={ s with heap:=h' }) e c d (by decide) ⟨x,H,I1,ru,⟨rfl,λ ys hy=>?_⟩,⟨by omega,?_⟩,λ b hb=>(hf b hb).1⟩⟩
  ·rw[I.list_inj hy hq,ZbY (by omega),hl]
   exact hx
  ·rw[show(n:Int)-1-((i+1:Nat):Int)=((n-1-i:Nat):Int)-1 by omega]
   exact st'
 done:=by
  intro X hP hw hK hc i pj s σ H E I hf st hg
  subst hP hw hK
  have hg:n<=i:=hg
  obtain⟨f0,f1,f2,f3,f4,f5⟩:=hf it (by simp)
  have st2:=st.2
  have l:=st.1
  rw[show(n:Int)-1-i=-1 by omega] at st2
  exact wpAny_pyNext_rev_end (I.ok.hd hc) st2 λ h' eb=>⟨rfl,I.turned (t':=s.toks) (λ b o hb e=>eb b o hb e) f0 f1 f3 f4 f5⟩
 self:=λ _ _ _ _ _ st h=>wpAny_pyIter_revIter st.2 h
def Vj:List IV->IH->Res ItI
 | [.ref i],h=>(match h[i]? with
  | some (.lst xs)=>.ok ⟨xs.reverse,λ h'=>h'[i]?=Za (.lst xs)⟩ h
  | _=>.stuck)
 | _,_=>.stuck
section
variable {ce:CeT}{X:Cx}{tg:Expr}
theorem Jzu {a:Zj}{i:Nat}{xs:List IV}{ι:List Zj}{H₀:Hp}(ha:ι[i]?=Za a):ItOk ce X.K ι H₀ (Itv X.K a xs.length) ⟨xs.reverse,λ h'=>h'[i]?=Za (.lst xs)⟩:=by
 refine⟨λ k x h H ι' hp R hck hx=>?_,λ k h H ι' hp R hck hx=>?_⟩
 ·obtain⟨vs,e1,r1⟩:=R.get hck (hp.at ha)
  have lk:k<xs.length:=by
   have:=(Zo.mp hx).1
   rwa [Zbu] at this
  have hx:xs.reverse[k]?=Za x:=hx
  have hl:=r1.length
  rw[ZbY lk] at hx
  obtain⟨v,hv,qv⟩:=r1.get hx
  have hv':vs.reverse[k]?=Za v:=by rw[ZbY (by omega),hl];exact hv
  refine⟨⟨vs,v,SqL.of e1,hl,hv'⟩,λ y H' hy=>?_⟩
  obtain⟨rfl,hy⟩:=hy
  have:=hy vs (SqL.of e1)
  rw[hv'] at this
  cases this
  exact⟨R,.refl,qv⟩
 ·show xs.length<=k
  rwa [<- Zbu]
theorem J14 {a:Expr}{ma:A1}{p pos:Pos}(hg:Gl X "reversed")(hm:X.mg "reversed"=Zc)(ha:PAi ce X [a] ma)(hs:Z9 [a] X.env=[(Zh,ZaQ a X.env)]:=by rfl):PIi ce X tg (.Call (.Name "reversed" p) [a] [] pos) (iRg Vj ma):=by
 intro pj s σ H ι σi h Q E N K
 refine Call_ (Qf N.inv hg hm rfl (Zah ?_ hs rfl))
 refine ha pos pj s σ H ι σi h _ E N ?_
 unfold iRg at K
 cases e0:ma σi h with
 | exc n h'=>rw[e0] at K;exact K
 | stuck=>rw[e0] at K;exact K
 | ok vs h' =>
  rw[e0] at K
  intro us s1 H1 ι1 N1 n1 r1
  obtain⟨xs,rv,qs⟩:=r1
  match vs,K with
  | [.ref i],K =>
   obtain⟨w,e1,q⟩:=qs.one_of
   subst e1
   obtain⟨b,e3,hb⟩:=q
   subst e3
   obtain⟨u,rfl,ru⟩:=Qk rv
   cases ru
   cases hi:h'[i]? with
   | none=>simp only[Res.bind,Vj,hi] at K
   | some ob =>
    cases ob with
    | lst ys =>
     simp only[Res.bind,Vj,hi] at K
     obtain⟨ws,eH,rH⟩:=N1.at hi hb
     obtain⟨its,rv2,pl,hz⟩:=N1.inv.list (SqL.of eH)
     have l1:=rv2.length
     have l2:=rH.length
     refine call_reversed_list pl.isList ?_
     have st:(s1.heap.push (revObj b ((its.toArray.size:Int)-1))).IsRevIter s1.heap.objs.size b ((ys.length:Int)-1-((0:Nat):Int)):=⟨_,Z1 _ rfl,rfl,by
      show Data.fields #[ZaI b,ZbK ((its.toArray.size:Int)-1)]=_
      rw[show((its.toArray.size:Int)-1)=((ys.length:Int)-1-((0:Nat):Int)) by simp;omega]⟩
     refine wpAny_pyIter_revIter st (K _ _ H1 ι1 ⟨N1.inv.kept (t':=s1.toks) λ b o e=>Zi _ e,N1.rel,N1.st⟩ n1 ?_)
     refine⟨s1.heap.objs.size,[s1.heap.objs.size],_,Itv X.K b ys.length,rfl,Jt0 b _ _,⟨Zaa _,st⟩,λ c hc=>?_,Jzu hb⟩
     rw[ZE.mp hc]
     exact N1.inv.fpOk (Zr _) (N1.inv.hok.fresh (Zr _))
    | _=>simp only[Res.bind,Vj,hi] at K
  | [],K=>exact Zf K
  | .non::_,K=>exact Zf K
  | .bl _::_,K=>exact Zf K
  | .str _::_,K=>exact Zf K
  | .tup _::_,K=>exact Zf K
  | .rol _::_,K=>exact Zf K
  | .int _::_,K=>exact Zf K
  | .ref _::_::_,K=>exact Zf K
end
section
variable {ce:CeT}{X:Cx}
end
end L3
namespace L4
open PySem PySem.Spec PyProof.Rows L2 L3
noncomputable def stE:E1:=λ _ _=>.stuck
noncomputable def stT:T1:=λ _ _=>.stuck
noncomputable def stO:O1:=λ _ _=>.stuck
noncomputable def stI:I1:=λ _ _=>.stuck
noncomputable def stG:G1:=λ _ _ _=>.stuck
noncomputable def stS:S1:=λ _ _=>.stuck
structure Fn where
 np:Nat
 dvs:List IV
 run:List IV->IH->Res IV
structure Pg where
 fn:Str->Option Fn
 cls:Str->Option Fn
 meth:Str->Str->Option Fn
 con:Str->Option IV
 isa:Str->Option (Str->Bool)
 fld:Str->Bool
 free:Str->Bool
 tabs:Str->Option Nat
 rz:Str->Bool
 bas:Str->Bool
 xi:Str->Option (Str->Option Bool)
 wr:Str->Option (List IV->IH->Res IV)
 ne:Str->Bool
 xo:Str->Option Fn
 xf:Str->Str->Bool
 xb:Str->Bool
structure Sc where
 N:List Str
 names:List (Str×Zbe)
 own:Bool
 q:Str
noncomputable def ixOf (x:Str):List Str->Option Nat
 | []=>Zc
 | y::r=>if y==x then Za 0 else(ixOf x r).map (· + 1)
noncomputable def Sc.vis (S:Sc)(x:Str):Option Nat :=
 match S.names.lookup x with
 | some .local=>if x=="__debug__"||x=="__classdict__" then Zc else ixOf x S.N
 | some .cell=>if x=="__debug__"||x=="__classdict__" then Zc else ixOf x S.N
 | some .free=>if x=="__debug__"||x=="__classdict__" then Zc else ixOf x S.N
 | _=>Zc
noncomputable def Sc.gl (S:Sc)(x:Str):Bool:=S.names.lookup x==Za .globalImplicit&&!(x=="__debug__")&&!(x=="__name__")
noncomputable def Sc.sto (S:Sc)(x:Str):Option Nat :=
 match S.names.lookup x with
 | some .local=>ixOf x S.N
 | some .cell=>if S.own then ixOf x S.N else Zc
 | _=>Zc
def evC:Const->E1
 | .int i=>eC (.int i)
 | .bool b=>eC (.bl b)
 | .none=>eC .non
 | .str x=>eC (.str x)
 | _=>stE
def binI:Operator->IV->IV->IH->Res IV
 | .Add=>Jo
 | .Sub=>JN
 | .Mult=>JL
 | .FloorDiv=>JJ
 | .Mod=>J7
 | .Pow=>JM
 | _=>λ _ _ _=>.stuck
def cmpI:CmpOp->IV->IV->IH->Res IV
 | .Lt=>cLt
 | .LtE=>cLe
 | .Gt=>cGt
 | .GtE=>cGe
 | .Eq=>cEq
 | .NotEq=>cNe
 | .Is=>cIs
 | .IsNot=>VZ
 | .In=>cIn
 | .NotIn=>Joq
def unI:UnaryOp->IV->IH->Res IV
 | .Not=>Vz tru
 | .USub=>Jw6
 | _=>λ _ _=>.stuck
def Jr3:List E1->E1
 | []=>stE
 | [a]=>a
 | a::b::r=>eAnd a (Jr3 (b::r)) tru
def eOrs:List E1->E1
 | []=>stE
 | [a]=>a
 | a::b::r=>eOr a (eOrs (b::r)) tru
def Jty:List T1->T1
 | []=>stT
 | [a]=>a
 | a::b::r=>Xr a (Jty (b::r))
def tOrs:List T1->T1
 | []=>stT
 | [a]=>a
 | a::b::r=>tOrI a (tOrs (b::r))
def aAll:List E1->A1
 | []=>Jd
 | a::r=>Jb a (aAll r)
def Jp:Expr->Bool
 | .Starred .. =>Zh
 | _=>Zd
def VG:Expr->Bool
 | .Set .. =>Zh
 | _=>Zd
def Jh8:Expr->Bool
 | .Slice .. =>Zh
 | _=>Zd
def QC:Expr->Bool
 | .ListComp .. =>Zh
 | .SetComp .. =>Zh
 | .DictComp .. =>Zh
 | _=>Zd
def QS:Expr->Bool
 | .Call (.Name ..) [] [] _=>Zh
 | _=>Zd
def Fn.fill (f:Fn)(n:Nat):Option (List IV):=if n<=f.np/\f.np<=n+f.dvs.length then Za (f.dvs.drop (f.dvs.length-(f.np-n))) else Zc
def Jlu (f:Fn)(n:Nat)(a:A1):E1:=match f.fill n with
 | some d=>Jn f.run d a
 | none=>stE
def Jlw (c:Str)(f:Fn)(n:Nat)(a:A1):E1:=match f.fill (n+1) with
 | some d=>QK c f.run d a
 | none=>stE
def bltF (x:Str):List IV->IH->Res IV :=
 if x=="len" then on1 lenI else if x=="all" then on1 allI else if x=="sum" then on1 sumI else if x=="sorted" then on1 QX else λ _ _=>.stuck
def bltT (x:Str):List IV->IH->Res IV :=
 if x=="list" then on1 Qq else if x=="tuple" then on1 VN else λ _ _=>.stuck
def Jpt (x:Str):Bool:=x=="len"||x=="all"||x=="sum"||x=="sorted"
def Jpu (x:Str):Bool:=x=="list"||x=="tuple"
def Jrv (P:Pg)(x:Str):Option (Ty->Option Bool) :=
 match P.isa x with
 | some g=>Za λ t=>match t with|.ins c=>Za (g c)|.exc _=>Zc|_=>Za Zh
 | none=>if P.free x then(if x=="int" then Za Vf else if x=="bool" then Za Ve else if x=="str" then Za Vr else if x=="list" then Za (if P.ne "Work" then Vq else Qg) else if x=="tuple" then Za Vg else Zc) else Zc
def Jvx (o:Option (Ty->Option Bool))(e:E1):E1:=match o with
 | some ans=>eIsi ans e
 | none=>stE
def bmOf (T:String)(m:Str)(n:Nat):Option (IV->List IV->IH->Res IV) :=
 if T=="list"&&m=="append"&&n==1 then Za V8 else if T=="list"&&m=="extend"&&n==1 then Za Xc else if T=="list"&&m=="remove"&&n==1 then Za Xk else if T=="dict"&&m=="setdefault"&&n==2 then Za V2 else Zc
def Vu (P:Pg)(m:Str)(n:Nat):Str->Option ((List IV->IH->Res IV)×List IV):=λ c=>match P.meth c m with
 | some f=>(match f.fill (n+1) with
  | some d=>Za (f.run,d)
  | none=>Zc)
 | none=>Zc
def VD (v:IV)(h:IH):Bool:=match v with
 | .ref i=>(match h[i]? with
  | some (.ins ..)=>Zd
  | _=>Zh)
 | _=>Zh
def tyS (v:IV)(h:IH):String:=match v with
 | .str _=>"str"
 | .rol _=>"list"
 | .ref i=>(match h[i]? with
  | some (.lst _)=>"list"
  | some (.dct _)=>"dict"
  | _=>"")
 | _=>""
def J0 (P:Pg)(m:Str)(n:Nat)(o:E1)(a:A1):E1:=λ σ h=>match o σ h with
 | .ok v h1=>if VD v h1 then Jr6 m (Vu P m n) o a σ h else(match bmOf (tyS v h1) m n with
  | some g=>eBm (tyS v h1) g o a σ h
  | none=>.stuck)
 | _=>.stuck
def Jy9 (n:Nat)(a:A1):I1:=match n with
 | 1=>iRg JR a
 | 2=>iRg Vx a
 | _=>stI
def gAll:List G1->List IV->ISt->IH->SRes
 | []=>gN
 | g::r=>gC g (gAll r)
def Qj (sc:ZaY):List Str:=sc.names.filterMap λ x=>if x.2==.local&&!(x.1==(".0":Str)) then Za x.1 else Zc
def JW (sc:ZaY):List Str:=sc.names.filterMap λ x=>if x.2==.free then Za x.1 else Zc
def jsOf (S:Sc)(sc:ZaY):List Nat:=(JW sc).map λ x=>(ixOf x S.N).getD 0
def Sc.comp (S:Sc)(sc:ZaY):Sc where
 N:=Qj sc++JW sc
 names:=sc.names.map λ x=>if x.2==.free&&S.names.lookup x.1==Za .cell then(x.1,.cell) else x
 own:=Zh
 q:=""
def Sc.lam (S:Sc)(x:Str)(sc:ZaY):Sc where
 N:=x::JW sc
 names:=sc.names
 own:=Zh
 q:=""
def Qw (S:Sc)(x:Str)(sc:ZaY):Bool :=
 sc.kind==.function&&!sc.isCoroutine&&!sc.isGenerator&&sc.names.all (λ y=>!(y.2==.cell))&&sc.names.lookup x==Za .local&&sc.names.all (λ y=>!(y.2==.free)||S.names.lookup y.1==Za .cell)
  && (JW sc).all (λ y=>decide (S.N[(ixOf y S.N).getD 0]?=Za y)&&sc.names.lookup y==Za .free)&&decide (x::JW sc).Nodup
def Sc.fake (S:Sc):ZaY:={ kind:=.function,names:=S.names,isGenerator:=Zh,isCoroutine:=Zh }
def Juo:Expr->Bool
 | .Name x _=>x=="last_come"||x=="tops"||x=="last"||x=="_law_last"||x=="_law_lows_here"
 | _=>Zh
def ixD (a:Expr):IV->IV->IH->Res IV:=if Juo a then Xh else Jh
def cmpD (ne:Str->Bool)(o:CmpOp)(b:Expr):IV->IV->IH->Res IV:=match o with
 | .In=>if Juo b then cInD else cIn
 | o=>cmpI o
def Ju8:Expr->Option Expr
 | .Call (.Name y _) [e] [] _=>if y=="set"&&Jp e then Za e else Zc
 | _=>Zc
def Ju3:Expr->Option Expr
 | .Call (.Name y _) [e] [] _=>if y=="range"&&Jp e then Za e else Zc
 | _=>Zc
def Jhv (P:Pg)(S:Sc)(x:Str)(f:Expr->E1):List Expr->E1
 | [a,b]=>if x=="max" then eCB (on2 maxI) (Jb (f a) (Jb (f b) Jd)) else if x=="min" then eCB (on2 minI) (Jb (f a) (Jb (f b) Jd)) else(match b with
  | .Name y _=>if x=="isinstance"&&S.gl y then Jvx (Jrv P y) (f a) else stE
  | _=>stE)
 | [a]=>(match (if x=="len"&&S.gl "set"&&P.free "set" then Ju8 a else Zc) with
  | some e=>XM (Jb (f e) Jd)
  | none=>match (if x=="list"&&S.gl "range"&&P.free "range" then Ju3 a else Zc) with
  | some e=>eLR (Jb (f e) Jd)
  | none=>if Jpt x then eCB (bltF x) (Jb (f a) Jd) else if Jpu x then eCB (bltT x) (Jb (f a) Jd) else stE)
 | _=>stE
def J01 (P:Pg)(S:Sc)(f:Sc->Expr->E1)(x:Str)(a:Expr)(k:Str):Expr->E1
 | .Lambda ps body sc _=>(match QO ps,P.tabs S.q with
  | some y,Za j=>if x=="sorted"&&k=="key"&&S.gl x&&P.free x&&Jp a&&S.own&&Qw S y sc then Xb S.q j (jsOf S sc) (Jb (f S a) Jd) (f (S.lam y sc) body) else stE
  | _,_=>stE)
 | _=>stE
def Jpz (P:Pg)(S:Sc)(f:Sc->Expr->E1)(x:Str)(args:List Expr)(kws:List Zdo):E1:=match args,kws with
 | [a],[⟨Za k,d,_⟩]=>if x=="max"&&k=="default"&&S.gl x&&P.free x&&Jp a then XN (Jb (f S a) Jd) (f S d) else if x=="sorted" then J01 P S f x a k d else stE
 | [a],[⟨Za k,.Lambda ps body sc _,_⟩,⟨Za k2,d,_⟩]=>(match QO ps,P.tabs S.q with
  | some y,Za j=>if x=="max"&&k=="key"&&k2=="default"&&S.gl x&&P.free x&&Jp a&&S.own&&Qw S y sc then XO gtZ S.q j (jsOf S sc) (Jb (f S a) Jd) (f (S.lam y sc) body) (f S d) else stE
  | _,_=>stE)
 | _,_=>stE
def Jvo (P:Pg)(S:Sc)(m:Str):Expr->Bool
 | .Name x _=>m=="__init__"&&S.gl x&&P.xb x
 | _=>Zh
def Jr5 (P:Pg)(S:Sc)(m:Str)(n:Nat)(o:Expr)(a:A1)(e:E1):E1:=if Jvo P S m o&&decide (n≠0) then XL (λ c=>(P.xo c).isSome) a else e
def Jow (ifs:List Expr)(f:Expr->T1)(m:T1->E1):E1:=match ifs with
 | []=>m J8
 | [c]=>m (f c)
 | _=>stE
section
mutual
def ev (P:Pg):Nat->Sc->Expr->E1
 | 0,_,_=>stE
 | n+1,S,e=>match e with
  | .Constant c _ _=>evC c
  | .Name x _=>(match S.vis x with
   | some i=>Ja i
   | none=>if S.gl x then(match P.con x with
    | some v=>eC v
    | none=>stE) else stE)
  | .BinOp a op b _=>Jc (binI op) (ev P n S a) (ev P n S b)
  | .UnaryOp op a _=>eUn (unI op) (ev P n S a)
  | .BoolOp .And vs _=>Jr3 (vs.map (ev P n S))
  | .BoolOp .Or vs _=>eOrs (vs.map (ev P n S))
  | .IfExp t a b _=>eIf (evT P n S t) (ev P n S a) (ev P n S b)
  | .Compare a [o] [b] _=>if Zbj o b then stE else Jc (cmpD P.ne o b) (ev P n S a) (ev P n S b)
  | .Compare a [o,o'] [b,c] _=>if ZdO [o,o'] [b,c] then stE else Q9 (cmpI o) (cmpI o') (ev P n S a) (ev P n S b) (ev P n S c)
  | .Tuple es _ _=>if es.all Jp then eTup (aAll (es.map (ev P n S))) else stE
  | .Dict [] [] _=>Jr4
  | .List es _=>if es.all Jp then eLst (aAll (es.map (ev P n S))) else stE
  | .Subscript a (.Slice lo hi Zc _) _=>eSl slI (ev P n S a) (evO P n S lo) (evO P n S hi)
  | .Subscript a i _=>if Jh8 i then Jc (ixD a) (ev P n S a) (ev P n S i) else stE
  | .Attribute o f _=>if QS o&&P.fld f then eFld f (ev P n S o) else stE
  | .Call (.Name x _) args [] _=>if S.gl x&&args.all Jp then Jo4 P n S x args else stE
  | .Call (.Name x _) args (kw::kws) _=>Jpz P S (λ S e=>ev P n S e) x args (kw::kws)
  | .Call (.Attribute o m ap) args [] p=>if args.all Jp&&QS o&&(ap.endLine==p.line)&&decide (args.length<30) then Jr5 P S m args.length o (aAll (args.map (ev P n S))) (J0 P m args.length (ev P n S o) (aAll (args.map (ev P n S)))) else stE
  | .ListComp elt [⟨tg,iter,ifs,as⟩] sc _ =>
   if as=0/\VG iter=Zd/\Qe S.N (Qj sc) (JW sc) (jsOf S sc) S.fake sc=Zd then
    Jow ifs (evT P n (S.comp sc)) λ mt=>Ju (evI P n S tg iter) (Qj sc).length (jsOf S sc) (tgt P n (S.comp sc) tg) mt (ev P n (S.comp sc) elt)
   else stE
  | _=>stE
def evT (P:Pg):Nat->Sc->Expr->T1
 | 0,_,_=>stT
 | n+1,S,e=>match e with
  | .UnaryOp .Not a _=>JA (evT P n S a)
  | .BoolOp .And vs _=>Jty (vs.map (evT P n S))
  | .BoolOp .Or vs _=>tOrs (vs.map (evT P n S))
  | .IfExp .. =>stT
  | .Compare a [o] [b] _=>if Zbj o b then stT else Ji asB (Jc (cmpD P.ne o b) (ev P n S a) (ev P n S b))
  | .Compare a [o,o'] [b,c] _=>if ZdO [o,o'] [b,c] then stT else Ji asB (Q9 (cmpI o) (cmpI o') (ev P n S a) (ev P n S b) (ev P n S c))
  | .Compare .. =>stT
  | e=>Ji tru (ev P n S e)
def evO (P:Pg):Nat->Sc->Option Expr->O1
 | 0,_,_=>stO
 | _+1,_,Zc=>QT
 | n+1,S,Za e=>JK (ev P n S e)
def Jo4 (P:Pg):Nat->Sc->Str->List Expr->E1
 | 0,_,_,_=>stE
 | n+1,S,x,args=>match P.fn x with
  | some f=>Jlu f args.length (aAll (args.map (ev P n S)))
  | none=>match P.cls x with
   | some f=>Jlw x f args.length (aAll (args.map (ev P n S)))
   | none=>if P.free x then Jhv P S x (ev P n S) args else stE
def evI (P:Pg):Nat->Sc->Expr->Expr->I1
 | 0,_,_,_=>stI
 | n+1,S,tg,e=>match e with
  | .Call (.Name x _) args [] _ =>
   if S.gl x&&P.free x&&args.all Jp&&(x=="range") then Jy9 args.length (aAll (args.map (ev P n S)))
   else if S.gl x&&P.free x&&args.all Jp&&(x=="enumerate") then(match tg,args with
    | .Tuple ..,[a]=>iRg QM (Jb (ev P n S a) Jd)
    | _,_=>stI)
   else if S.gl x&&P.free x&&args.all Jp&&(x=="reversed") then(match args with
    | [a]=>iRg Vj (Jb (ev P n S a) Jd)
    | _=>stI)
   else J1 (ev P n S e)
  | e=>J1 (ev P n S e)
def tgt (P:Pg):Nat->Sc->Expr->G1
 | 0,_,_=>stG
 | n+1,S,e=>match e with
  | .Name x _=>(match S.sto x with
   | some i=>gNm i
   | none=>stG)
  | .Tuple es _ _=>if es.all Jp then gTp es.length (gAll (es.map (tgt P n S))) else stG
  | _=>stG
end
end
def Q2 (t:T1)(b:S1):Nat->S1
 | 0,_,_=>.stuck
 | n+1,σ,h=>match t σ h with
  | .ok c h1=>if c then(match b σ h1 with
   | .next σ2 h2=>Q2 t b n σ2 h2
   | .cont σ2 h2=>Q2 t b n σ2 h2
   | .brk σ2 h2=>.next σ2 h2
   | .ret v h2=>.ret v h2
   | .exc m σ2 h2=>(match h2[m]? with
    | some (.exc _ _)=>.exc m σ2 h2
    | _=>.stuck)
   | _=>.stuck) else .next σ h1
  | _=>.stuck
@[irreducible] def VO:Nat:=1000000
def Jky (o:Bool)(t:T1)(b:S1):S1:=match o with
 | true=>Q2 t b VO
 | false=>stS
def VJ (t:T1)(b:S1):S1:=Jky Zd t b
theorem Jgm (t:T1)(b:S1):VJ t b=Q2 t b VO:=rfl
def sAll:List S1->S1
 | []=>Jv
 | [a]=>a
 | a::b::r=>Je a (sAll (b::r))
def Jw2:Expr->Bool
 | .Tuple .. =>Zh
 | _=>Zd
def Jss:Expr->Bool
 | .Tuple .. =>Zd
 | _=>Zh
def isLC:Expr->Bool
 | .ListComp .. =>Zd
 | _=>Zh
def Jsr:Expr->Bool
 | .Subscript .. =>Zd
 | _=>Zh
abbrev Xi:=Str->Option (Str->Option Bool)
def Vs (g:Str->Option Bool):Ty->Option Bool
 | .exc c=>g c
 | _=>Zc
section
def Jv7 (S:Sc)(xi:Xi)(fr:Str->Bool)(f:Expr)(as:List Expr)(ks:List Zdo)(p:Pos)(m:Expr->E1):E1:=match f,as,ks with
 | .Name x _,[a,.Name D _],[]=>if x=="isinstance"&&fr x&&S.gl x&&S.gl D&&Jp a then(match xi D with
  | some g=>eIsi (Vs g) (m a)
  | none=>stE) else stE
 | .Name x _,[a],[]=>if x=="len"&&fr x&&S.gl x&&Jp a then eCB (on1 lenI) (Jb (m a) Jd) else stE
 | .Attribute o y ap,[a],[]=>if y=="index"&&Jp a&&QS o&&(ap.endLine==p.line) then eBm "list" Jpq (m o) (Jb (m a) Jd) else stE
 | _,_,_=>stE
def Jv8 (w:Bool)(S:Sc)(sc:ZaY)(elt:Expr)(gens:List Comprehension)(m:Bool->Sc->Expr->E1):E1:=match gens with
 | [⟨.Name y _,iter,[.Name c cp],as⟩]=>if w=Zd/\as=0/\VG iter=Zd/\Qe S.N (Qj sc) (JW sc) (jsOf S sc) S.fake sc=Zd then(match (S.comp sc).sto y with
  | some i=>Ju (Jwd (m w S iter)) (Qj sc).length (jsOf S sc) (gNm i) (Ji tru (m Zh (S.comp sc) (.Name c cp))) (m Zh (S.comp sc) elt)
  | none=>stE) else stE
 | _=>stE
def hv (xi:Xi)(xf:Str->Str->Bool)(fr:Str->Bool):Nat->Bool->Sc->Expr->E1
 | 0,_,_,_=>stE
 | n+1,w,S,e=>match e with
  | .Constant c _ _=>evC c
  | .Name x _=>(match S.vis x with
   | some i=>Ja i
   | none=>stE)
  | .BinOp a op b _=>Jc (binI op) (hv xi xf fr n w S a) (hv xi xf fr n w S b)
  | .Compare a [o] [b] _=>if Zbj o b then stE else Jc (cmpI o) (hv xi xf fr n w S a) (hv xi xf fr n w S b)
  | .Subscript a i _=>if Jh8 i then Jc Jh (hv xi xf fr n w S a) (hv xi xf fr n w S i) else stE
  | .UnaryOp op a _=>eUn (unI op) (hv xi xf fr n w S a)
  | .BoolOp .And vs _=>Jr3 (vs.map (hv xi xf fr n w S))
  | .BoolOp .Or vs _=>eOrs (vs.map (hv xi xf fr n w S))
  | .Tuple es _ _=>if es.all Jp then eTup (aAll (es.map (hv xi xf fr n w S))) else stE
  | .List es _=>if es.all Jp then eLst (aAll (es.map (hv xi xf fr n w S))) else stE
  | .Call f as ks p=>Jv7 S xi fr f as ks p (hv xi xf fr n w S)
  | .ListComp elt gens sc _=>Jv8 w S sc elt gens (hv xi xf fr n)
  | _=>stE
def hT (xi:Xi)(xf:Str->Str->Bool)(fr:Str->Bool)(w:Bool)(S:Sc):Nat->Expr->T1
 | 0,_=>stT
 | n+1,e=>match e with
  | .UnaryOp .Not a _=>JA (hT xi xf fr w S n a)
  | .BoolOp .And vs _=>Jty (vs.map (hT xi xf fr w S n))
  | .BoolOp .Or vs _=>tOrs (vs.map (hT xi xf fr w S n))
  | .Compare a [o] [b] _=>if Zbj o b then stT else Ji asB (Jc (cmpI o) (hv xi xf fr n w S a) (hv xi xf fr n w S b))
  | .Call f as ks p=>Ji tru (hv xi xf fr n w S (.Call f as ks p))
  | _=>stT
def hx (xi:Xi)(xf:Str->Str->Bool)(fr:Str->Bool)(w:Bool)(S:Sc):Nat->Zb2->S1
 | 0,_=>stS
 | n+1,st=>match st with
  | .Pass _=>Jtj
  | .Return (Za e) _=>Jm (hv xi xf fr n w S e)
  | .If c a b _=>sIf (hT xi xf fr w S n c) (sAll (a.map (hx xi xf fr w S n))) (sAll (b.map (hx xi xf fr w S n)))
  | .Assign [.Name x _] e _=>if QC e then(match S.sto x with
   | some i=>Jk i (hv xi xf fr n w S e)
   | none=>stS) else stS
  | _=>stS
def hSl (S:Sc):Option Str->Option (Option Nat)
 | none=>Za Zc
 | some x=>if S.names.lookup x==Za .local then(ixOf x S.N).map Za else Zc
def Jph (P:Pg)(S:Sc)(n:Nat)(sl:Option Nat)(suite:List Zb2):S1:=match suite with
 | [.Assign [.Name x _] (.Call (.Name f _) [.Name e _] [] _) _]=>(match S.sto x,sl,P.wr f with
  | some j,Za i,Za g=>if S.gl f&&decide (S.vis e=Za i) then Jql j g i else stS
  | _,_,_=>stS)
 | _=>sAll (suite.map (hx P.xi P.xf P.free Zh S n))
def hHd (P:Pg)(S:Sc)(n:Nat):Zbk->Option HdI
 | .ExceptHandler (Za (.Name D _)) nm (b::suite) _=>if S.gl D then(match P.xi D,hSl S nm with
  | some g,Za sl=>Za (g,sl,Jph P S n sl (b::suite))
  | _,_=>Zc) else Zc
 | _=>Zc
def hHds (P:Pg)(S:Sc)(n:Nat):List Zbk->Option (List HdI)
 | []=>Za []
 | h::r=>match hHd P S n h,hHds P S n r with
  | some q,Za l=>Za (q::l)
  | _,_=>Zc
end
def XiOk (K:W.Frag)(mg:Str->Option Ze)(xi:Xi)(xf:Str->Str->Bool):Prop:=(∀D g,xi D=Za g->∃v,(mg D=Za v∨(mg D=Zc/\Zbv D=Za v)) /\
 ∀c C b,g c=Za b->W.nsIn K Zm c=Za (Za (.ref C))->ExI K C/\W.kitOne K (.ref C) v=Za b/\W.exmOne K (.ref C) v=Za b) /\
 ∀f c C,xf f c=Zd->W.nsIn K Zm c=Za (Za (.ref C))->StoX K C f/\ExI K C/\W.findIn K (.ref C) f=Za Zc
section
def Jkt (P:Pg)(S:Sc)(m:Expr->E1)(x:Str)(e:Expr):S1:=match P.xo x with
 | some f=>if S.gl x&&Jp e&&decide (f.np<=8) then(match f.fill 2 with
  | some d=>Yb (λ c=>c==x) (Jlv x f.run d (aAll ([e].map m)))
  | none=>stS) else stS
 | none=>stS
def Jpf (P:Pg)(S:Sc)(m:Expr->E1)(exc cause:Option Expr):S1:=match exc,cause with
 | some (.Call (.Name x _) [e] [] _),Zc=>if S.gl x&&P.rz x&&Jp e then JT x (Jb (m e) Jd) else Jkt P S m x e
 | _,_=>stS
def hTry (P:Pg)(S:Sc)(n:Nat)(m:Zb2->S1)(body:List Zb2)(hs:List Zbk)(o f:List Zb2):S1:=match hs,o,f with
 | h::r,[],[]=>if S.own then(match hHds P S n (h::r) with
  | some ms=>sTry (sAll (body.map m)) ms
  | none=>stS) else stS
 | _,_,_=>stS
end
def Jxg (P:Pg)(f:Str)(o e:E1):S1:=if P.fld f then Qz f o e else Ya (P.xf f) f o e
section
def ex (P:Pg):Nat->Sc->Zb2->S1
 | 0,_,_=>stS
 | n+1,S,st=>match st with
  | .Pass _=>Jtj
  | .Break _=>Ju5
  | .Continue _=>J0r
  | .Expr e _=>if QC e then JO (ev P n S e) else stS
  | .Return Zc _=>Jxh
  | .Return (Za e) _=>Jm (ev P n S e)
  | .If c a b _=>sIf (evT P n S c) (sAll (a.map (ex P n S))) (sAll (b.map (ex P n S)))
  | .While c a [] _=>Jky S.own (evT P n S c) (sAll (a.map (ex P n S)))
  | .For tg it a [] _=>if VG it&&S.own then sFor (evI P n S tg it) (tgt P n S tg) (sAll (a.map (ex P n S))) else stS
  | .Assign [.Name x _] e _=>if QC e||isLC e then(match S.sto x with
   | some i=>Jk i (ev P n S e)
   | none=>stS) else stS
  | .Assign [.Attribute o f _] e _=>if QC e||isLC e then Jxg P f (ev P n S o) (ev P n S e) else stS
  | .Assign [tg] e _=>if QC e&&((Jss tg&&Jw2 e)||Jsr tg) then sAsg (ev P n S e) (tgt P n S tg) else stS
  | .Raise exc cause _=>Jpf P S (ev P n S) exc cause
  | .Try body hs o f _=>hTry P S n (ex P n S) body hs o f
  | _=>stS
end
structure FnD (ce:CeT)(prog:ZA)(w:ZM)(K:W.Frag)(mg:Str->Option Ze)(base:ZZ)(k:Nat)(f:Fn)(fa:Zj)(fd:Zap)(ps:List Str):Prop where
 len:ps.length=f.np
 ok:FnOk prog w K mg base (CXI prog w) k fa fd ps (spI ce K ps f.run)
 dv:∀j,j<=f.dvs.length->∃ds,JI K fd ps ds/\ds.length=f.dvs.length-j/\∃vs,Vals vs ds/\∀ι H,RVs K ι H (f.dvs.drop j) vs
structure PgOk (ce:CeT)(k:Nat)(P:Pg)(prog:ZA)(w:ZM)(K:W.Frag)(mg:Str->Option Ze)(base:ZZ):Prop where
 fn:∀x f,P.fn x=Za f->∃fa fd ps,mg x=Za (.ref fa)/\W.keepIn K (.ref fa)=Zd/\FnD ce prog w K mg base k f fa fd ps
 cls:∀x f,P.cls x=Za f->∃C fa fd ps,mg x=Za (.ref C)/\ce x=Za C/\Mk K C fa/\FnD ce prog w K mg base k f fa fd ps
 meth:∀c m f,P.meth c m=Za f->∃C fa fd ps,ce c=Za C/\Cls K C/\Meth K C m fa/\FnD ce prog w K mg base k f fa fd ps
 con:∀x v,P.con x=Za v->∃u y,mg x=Za u/\RelV y u/\∀ι H,RV K ι H v y
 isa:∀D g,P.isa D=Za g->∃c,mg D=Za c/\IsOk ce K c λ t=>match t with|.ins c=>Za (g c)|.exc _=>Zc|_=>Za Zh
 fld:∀f,P.fld f=Zd->Jrt ce K f
 free:∀x,P.free x=Zd->mg x=Zc
 blt:∀q j,P.tabs q=Za j->Qs mg base
 rz:∀x,P.rz x=Zd->∃C,mg x=Za (.ref C)/\W.nsIn K Zm x=Za (Za (.ref C))/\XCls K C
 xi:XiOk K mg P.xi P.xf
 bas:∀x,P.bas x=Zd->∃C,mg x=Za (.ref C)/\BasK K C
 wr:∀x r,P.wr x=Za r->∃fa fd qual st dV N' p1 m,mg x=Za (.ref fa)/\W.keepIn K (.ref fa)=Zd/\FunD K x qual st fa fd dV/\FnScope N' [p1] (Jy st)/\JI K fd [p1] []/\r=fnI N'.length m /\
  ∀(cdv:Ze)(A:ZG)(outer:List Env)(s:Zk)(H:Hp)(E:XK)(a:Zj),W.codeIn K cdv qual=Zd->Room (k+2) (A.deeper (ZcW qual (Jy st) s.heap.objs.size fa cdv))->Warm (A.mark (Za (.ref a))) H->PS2 ce (Jj (cxOf (CXI prog w) prog w K mg base N' qual (Jy st) fa cdv A outer s H E).nox a) (JG st) m
 ne:∀c,P.ne c=Zd->∃C,ce c=Za C/\neIn K C=Zd/\ClsI K C/\W.kitOne K (.ref C) (.type "list")=Za Zh
 xo:∀x f,P.xo x=Za f->∃C fa fd ps,mg x=Za (.ref C)/\W.nsIn K Zm x=Za (Za (.ref C))/\JV K C fa=Zd/\W.keepIn K (.ref C)=Zd/\(∀h:ZZ,K.In h->ExC h C)/\FnD ce prog w K mg base k f fa fd ps
 xb:∀x,P.xb x=Zd->∃C,mg x=Za (.ref C)/\BasX K C
structure Good (ce:CeT)(k:Nat)(P:Pg)(S:Sc)(X:Cx):Prop where
 n:X.N=S.N
 sc:X.env.scope.names=S.names
 nd:S.N.Nodup
 fk:X.env.scope.kind=.function
 calm:X.calm=Zd
 room:Room (k+1) X.A
 st:S.own=Zd->∀x,X.fn x=Zd
 pg:PgOk ce k P X.prog X.w X.K X.mg X.base
 code:S.own=Zd->W.codeIn X.K X.env.code S.q=Zd/\X.env.qual=S.q++".<locals>."
 room3:S.own=Zd->Room (k+3) X.A
 top:S.own=Zd->X.stack=X.env::X.outer/\X.env.frame=Za X.env.locals
section
variable {ce:CeT}{k:Nat}{P:Pg}{S:Sc}{X:Cx}{α β:Type}{R:REL α β}
theorem Jf {t:Sem β}:PX ce X R t (λ _ _=>.stuck):=λ _ _ _ _ _ _ _ _ _ _ K=>(show False from K).elim
theorem J2p {t:Sem β}{m:ISt->IH->Res α}(hh:∀σi h,∃m',m σi h=m' σi h/\PX ce X R t m'):PX ce X R t m:=by
 intro pj s σ H ι σi h Q E N K
 obtain⟨m',e,p⟩:=hh σi h
 rw[e] at K
 exact p pj s σ H ι σi h Q E N K
theorem XZ {tg e:Expr}:PIi ce X tg e stI:=λ _ _ _ _ _ _ _ _ _ _ K=>(show False from K).elim
theorem Jfj {e:Expr}:PGi ce X e stG:=λ _ _ _ _ _ _ _ _ _ _ _ _ _ K=>(show False from K).elim
theorem JB {t:Sem Flow}:PSi ce X t stS:=λ _ _ _ _ _ _ _ _ _ _ K=>(show False from K).elim
theorem XS {x:Str}:∀{l:List Str}{i:Nat},ixOf x l=Za i->l[i]?=Za x
 | [],_,h=>by cases h
 | y::r,i,h=>by
  unfold ixOf at h
  split at h
  ·rename_i e
   cases h
   simp[beq_iff_eq.mp e]
  ·obtain⟨j,hj,rfl⟩:=Z5.mp h
   simpa using XS hj
theorem Good.kind (G:Good ce k P S X)(x:Str):X.env.kindOf x=S.names.lookup x:=by
 show X.env.scope.names.lookup x=_
 rw[G.sc]
theorem Good.vis (G:Good ce k P S X){x:Str}{i:Nat}(h:S.vis x=Za i):X.N[i]?=Za x/\Vis X.env.scope x/\(x==("__debug__":Str))=Zh/\(x==("__classdict__":Str))=Zh:=by
 unfold Sc.vis at h
 have fin:∀{o:Zbe},(o=.local∨o=.cell∨o=.free)->S.names.lookup x=Za o->(if (x==("__debug__":Str)||x==("__classdict__":Str))=Zd then Zc else ixOf x S.N)=Za i ->
   X.N[i]?=Za x/\Vis X.env.scope x/\(x==("__debug__":Str))=Zh/\(x==("__classdict__":Str))=Zh:=λ ho e h=>by
  split at h
  ·cases h
  ·rename_i hd
   have hd':=Zba.mpr hd
   rw[Zdd] at hd'
   refine⟨by rw[G.n];exact XS h,?_,hd'.1,hd'.2⟩
   unfold Vis
   rw[G.sc,e]
   rcases ho with rfl|rfl|rfl
   ·exact .inl rfl
   ·exact .inr (.inl rfl)
   ·exact .inr (.inr rfl)
 cases e:S.names.lookup x with
 | none=>rw[e] at h;cases h
 | some o =>
  rw[e] at h
  cases o with
  | «local» =>exact fin (.inl rfl) e h
  | cell=>exact fin (.inr (.inl rfl)) e h
  | free=>exact fin (.inr (.inr rfl)) e h
  | _=>cases h
theorem Good.gl (G:Good ce k P S X){x:Str}(h:S.gl x=Zd):Gl X x/\(x==("__debug__":Str))=Zh/\x≠"__name__":=by
 unfold Sc.gl at h
 simp only[Zl,beq_iff_eq,ZaO] at h
 refine⟨?_,h.1.2,λ e=>?_⟩
 ·show X.env.kindOf x=_
  rw[G.kind]
  exact h.1.1
 ·have:=h.2
  rw[e] at this
  exact absurd this (by decide)
theorem Good.sto (G:Good ce k P S X){x:Str}{i:Nat}(h:S.sto x=Za i):X.N[i]?=Za x/\Loc X.env.scope x/\(X.fn x=Zd∨X.env.scope.names.lookup x=Za .local):=by
 unfold Sc.sto at h
 unfold L2.Loc
 rw[G.sc]
 cases e:S.names.lookup x with
 | none=>rw[e] at h;cases h
 | some o =>
  rw[e] at h
  cases o with
  | «local» =>exact⟨by rw[G.n];exact XS h,.inl rfl,.inr rfl⟩
  | cell =>
   dsimp only at h
   split at h
   ·rename_i ho
    exact⟨by rw[G.n];exact XS h,.inr rfl,.inl (G.st ho x)⟩
   ·cases h
  | _=>cases h
theorem Good.nodup (G:Good ce k P S X):X.N.Nodup:=by rw[G.n];exact G.nd
theorem Jr {a:Expr}{es:List Expr}{env:Env}(h:Jp a=Zd):Z9 (a::es) env=(Zh,ZaQ a env)::Z9 es env:=by
 cases a<;>first|rfl|cases h
theorem VL {pos:Pos}{env:Env}:∀{es:List Expr},es.all Jp=Zd->(ZaX pos (Z9 es env)).any (·.1)=Zh
 | [],_=>rfl
 | a::es,h=>by
  simp only[Zaf,Zl] at h
  rw[Jr h.1]
  show(Zh||(ZaX pos (Z9 es env)).any (·.1))=Zh
  rw[VL h.2]<;>rfl
theorem Jgq {pos:Pos}{env:Env}:∀{es:List Expr},es.all Jp=Zd->(ZaX pos (Z9 es env)).all (λ x=>!x.1)=Zd
 | [],_=>rfl
 | a::es,h=>by
  simp only[Zaf,Zl] at h
  rw[Jr h.1]
  show(Zd&&(ZaX pos (Z9 es env)).all (λ x=>!x.1))=Zd
  rw[Jgq h.2]<;>rfl
theorem Jpl {pos:Pos}{env:Env}{es:List Expr}(ha:es.all Jp=Zd)(hn:es.length<30):((ZaX pos (Z9 es env)).all (λ x=>!x.1)&&(ZdR pos (ZcE [] env)).all (λ x=>x.1.isSome)
   && decide (es.length+([]:List Zdo).length+(if ([]:List Zdo).isEmpty then 0 else 1)<30))=Zd:=by
 show((ZaX pos (Z9 es env)).all (λ x=>!x.1)&&Zd&&decide (es.length+0+0<30))=Zd
 rw[Jgq ha]
 simpa using hn
theorem XC:∀(l:List E1),ALen l.length (aAll l)
 | []=>Jru
 | _::r=>Jn9 (XC r)
theorem Qu {f:Expr->E1}:∀{es:List Expr},es.all Jp=Zd->(∀e,PEi ce X e (f e))->PAi ce X es (aAll (es.map f))
 | [],_,_=>Qc
 | a::es,h,hf=>by
  simp only[Zaf,Zl] at h
  exact Qa (hf a) (Qu h.2 hf) (Jr h.1)
theorem Jo2 {f:Expr->E1}{pos:Pos}(hf:∀e,PEi ce X e (f e)):∀(vs:List Expr),PEi ce X (.BoolOp .And vs pos) (Jr3 (vs.map f))
 | []=>Jf
 | [a]=>Jzo (hf a)
 | a::b::r=>J11 VM (hf a) (Jo2 hf (b::r))
theorem Jvz {f:Expr->E1}{pos:Pos}(hf:∀e,PEi ce X e (f e)):∀(vs:List Expr),PEi ce X (.BoolOp .Or vs pos) (eOrs (vs.map f))
 | []=>Jf
 | [a]=>Jzo (hf a)
 | a::b::r=>i_or VM (hf a) (Jvz hf (b::r))
theorem Jqz {f:Expr->T1}{pos:Pos}(hf:∀e,PTi ce X e (f e)):∀(vs:List Expr),PWi ce X (.BoolOp .And vs pos) (Jty (vs.map f))
 | []=>λ _=>Jf
 | [a]=>Jxy (hf a)
 | a::b::r=>J05 (hf a) (Jqz hf (b::r))
theorem Jxw {f:Expr->T1}{pos:Pos}(hf:∀e,PTi ce X e (f e)):∀(vs:List Expr),PWi ce X (.BoolOp .Or vs pos) (tOrs (vs.map f))
 | []=>λ _=>Jf
 | [a]=>J06 (hf a)
 | a::b::r=>J2w (hf a) (Jxw hf (b::r))
theorem Jur {f:Expr->G1}:∀{es:List Expr},es.all Jp=Zd->(∀e,PGi ce X e (f e))->PGsi ce X es (gAll (es.map f))
 | [],_,_=>Jy7
 | a::es,h,hf=>by
  simp only[Zaf,Zl] at h
  refine Jv6 (hf a) (Jur h.2 hf) ?_
  cases a<;>first|rfl|exact absurd h.1 Zq
theorem Jui {env:Env}:∀{es:List Expr},es.all Jp=Zd->(ZaL es env).length=es.length
 | [],_=>rfl
 | a::es,h=>by
  simp only[Zaf,Zl] at h
  have:ZaL (a::es) env=(Zh,Zer a env)::ZaL es env:=by cases a<;>first|rfl|exact absurd h.1 Zq
  rw[this,ZB,ZB,Jui h.2]
theorem Jog {env:Env}:∀{es:List Expr},es.all Jp=Zd->(ZaL es env).findIdx? (·.1)=Zc
 | [],_=>rfl
 | a::es,h=>by
  simp only[Zaf,Zl] at h
  have:ZaL (a::es) env=(Zh,Zer a env)::ZaL es env:=by cases a<;>first|rfl|exact absurd h.1 Zq
  rw[this,Zd1,Jog h.2]
  rfl
theorem Jz8 (op:Operator):OpI ce X (ZaT op) (binI op):=by
 cases op with
 | Add=>exact J2b
 | Sub=>exact J2g
 | Mult=>exact J0a
 | FloorDiv=>exact Jz9
 | Mod=>exact J2d
 | Pow=>exact J2f
 | _=>exact λ _ _ _ _ _ _ _ _ _ _ _ _ _ _ _ _ K=>(show False from K).elim
theorem VH (hu:X.A.units+64<Zez)(op:CmpOp):OpI ce X (Zan op) (cmpI op):=by
 cases op with
 | Lt=>exact o_lt
 | LtE=>exact o_le
 | Gt=>exact o_gt
 | GtE=>exact o_ge
 | Eq=>exact o_eq hu
 | NotEq=>exact o_ne hu
 | Is=>exact o_is
 | IsNot=>exact Jw3
 | In=>exact o_in hu
 | NotIn=>exact Jw4 hu
theorem Ju1 {ne:Str->Bool}(hu:X.A.units+64<Zez)(hn:∀c,ne c=Zd->∃C,ce c=Za C/\neIn X.K C=Zd)(op:CmpOp)(b:Expr):OpI ce X (Zan op) (cmpD ne op b):=by
 unfold cmpD
 split
 ·split
  ·exact J2c
  ·exact o_in hu
 ·exact VH hu op
theorem J23 (a:Expr):IxI ce X (ixD a):=by
 unfold ixD
 split
 ·exact J22
 ·exact x_ix
theorem o_un (op:UnaryOp):UnI ce X (unaryOp op) (unI op):=by
 cases op with
 | Not=>exact Jxz VM
 | USub=>exact J2x
 | _=>exact λ _ _ _ _ _ _ _ _ _ _ _ _ _ K=>(show False from K).elim
theorem XE {o:Expr}{m:Str}{env:Env}{w:Sem Ze}(h:QS o=Zd):Zda o m env w=w:=by
 cases o with
 | Call f as ks p =>
  cases f with
  | Name x q =>
   cases as with
   | nil =>
    cases ks with
    | nil=>cases h
    | cons _ _=>rfl
   | cons _ _=>rfl
  | _=>rfl
 | _=>rfl
theorem Xd {e:Expr}{env:Env}(h:VG e=Zd)(x:Ze):ZbE e env x=pure x:=by
 cases e<;>first|rfl|cases h
theorem Xq {e:Expr}{t:Option Expr}{l:Nat}{env:Env}(h:QC e=Zd):ZcD e t l env=pure Zh:=by
 cases e<;>first|rfl|cases h
theorem Jl0 {i:Expr}(h:Jh8 i=Zd):Jn7 i:=λ _ _=>by
 cases i<;>first|rfl|cases h
theorem Jgk {o:Expr}{m:Str}{ap pos:Pos}{es:List Expr}{env:Env}(hb:QS o=Zd)(hs:es.all Jp=Zd)(hl:(ap.endLine==pos.line)=Zd)(hn:es.length<30) :
  ZaQ (.Call (.Attribute o m ap) es [] pos) env=(do
   let ov<-ZaQ o env
   ZeF ap.atName
   let (f,first)<-Zdb [ov] (ZdJ ov m (do return(<- importBound o env).getD Zd))
   callWith pos f first (ZaX pos (Z9 es env)) (ZdR pos (ZcE [] env))):=by
 have hform:methodCallForm (es.length+([]:List Zdo).length) (ZaX pos (Z9 es env)) (ZdR pos (ZcE [] env))=Zd:=by
  show((ZaX pos (Z9 es env)).all (λ x=>!x.1)&&Zd&&decide (es.length+0+0<30))=Zd
  rw[Jgq hs]
  simpa using hn
 have hpos:methodCallPos Zd o env ap pos=pure pos:=by unfold methodCallPos;simp[hl]
 rw[arm_eval_Call,XE hb]
 unfold methodCall
 rw[hform,hpos]
 rfl
end
section
variable {ce:CeT}{k:Nat}{P:Pg}{S:Sc}{X:Cx}
theorem Jf7 (G:Good ce k P S X)(N0 l c:List Str)(js:List Nat)(sc:ZaY):Qe N0 l c js X.env.scope sc=Qe N0 l c js S.fake sc:=by
 unfold Qe
 rw[G.fk,G.sc]
 rfl
theorem Good.comp (G:Good ce k P S X){sc:ZaY}(h:Qe S.N (Qj sc) (JW sc) (jsOf S sc) S.fake sc=Zd)(C:Zj)(s:Zk)(H:Hp)(fp:List Zj):Good ce k P (S.comp sc) (cxC X (Qj sc++JW sc) sc C s H fp):=by
 simp only[Qe,Zl,decide_eq_true_eq] at h
 obtain⟨⟨⟨⟨⟨⟨⟨⟨⟨kF,kF0⟩,kNC⟩,kL⟩,kFr⟩,kFx⟩,kJ⟩,kLen⟩,kNd⟩,kLo⟩:=h
 refine⟨rfl,?_,kNd,kF,G.calm,G.room,λ z=>absurd z Zq,G.pg,λ z=>absurd z Zq,λ z=>absurd z Zq,λ z=>absurd z Zq⟩
 show(relabel sc X.env).names=_
 unfold relabel Sc.comp
 dsimp only
 refine List.map_congr_left λ x _=>?_
 obtain⟨n,kd⟩:=x
 dsimp only
 rw[G.fk,G.kind]
 simp
end
structure Snd (ce:CeT)(k:Nat)(P:Pg)(n:Nat):Prop where
 e:∀S X e,Good ce k P S X->PEi ce X e (ev P n S e)
 t:∀S X e,Good ce k P S X->PTi ce X e (evT P n S e)
 o:∀S X e,Good ce k P S X->PPi ce X e (evO P n S e)
 c:∀S X x args p pos,Good ce k P S X->S.gl x=Zd->args.all Jp=Zd->PEi ce X (.Call (.Name x p) args [] pos) (Jo4 P n S x args)
 i:∀S X tg e,Good ce k P S X->PIi ce X tg e (evI P n S tg e)
 g:∀S X e,Good ce k P S X->PGi ce X e (tgt P n S e)
section
variable {ce:CeT}{k:Nat}{P:Pg}{n:Nat}{S:Sc}{X:Cx}
theorem Jtt:Snd ce k P 0:=⟨λ _ _ _ _=>Jf,λ _ _ _ _=>Jf,λ _ _ _ _=>Jf,λ _ _ _ _ _ _ _ _ _=>Jf,λ _ _ _ _ _=>XZ,λ _ _ _ _=>Jfj⟩
theorem Jh0 {prog:ZA}{w:ZM}{K:W.Frag}{mg:Str->Option Ze}{base:ZZ}{f:Fn}{fa:Zj}{fd:Zap}{ps:List Str}{m:Nat}{d:List IV}(D:FnD ce prog w K mg base k f fa fd ps)(h:f.fill m=Za d) :
  ∃ds,JI K fd ps ds/\m+ds.length=ps.length/\∃vs,Vals vs ds/\∀ι H,RVs K ι H d vs:=by
 unfold Fn.fill at h
 split at h
 ·rename_i hz
  cases h
  obtain⟨ds,hb,hl,q⟩:=D.dv (f.dvs.length-(f.np-m)) (by omega)
  exact⟨ds,hb,by rw[hl,D.len];omega,q⟩
 ·cases h
theorem Jtp (G:Good ce k P S X){x:Str}{f:Fn}(hx:P.fn x=Za f)(hg:S.gl x=Zd){args:List Expr}(ha:args.all Jp=Zd){g:Expr->E1}(hf:∀e,PEi ce X e (g e)){p pos:Pos} :
  PEi ce X (.Call (.Name x p) args [] pos) (Jlu f args.length (aAll (args.map g))):=by
 obtain⟨fa,fd,ps,hm,hk,D⟩:=G.pg.fn x f hx
 obtain⟨gl,hdb,_⟩:=G.gl hg
 unfold Jlu
 cases hd:f.fill args.length with
 | none=>exact Jf
 | some d =>
  obtain⟨ds,hb,hl,q⟩:=Jh0 D hd
  have hr:Room k X.A:=G.room.mono (ZaC k)
  cases args with
  | nil=>exact Jwf D.ok hr gl hm hk hb q (by simpa using hl) hdb
  | cons a es =>
   have ha':=ha
   simp only[Zaf,Zl] at ha'
   refine Jzb D.ok hr gl hm hk hb q (Qu ha hf) (λ σ h xs h' e=>?_) hdb (Jr ha'.1) (VL ha'.2)
   have:=XC _ σ h xs h' e
   rw[Zp] at this
   rw[this]
   exact hl
theorem Jtq (G:Good ce k P S X){x:Str}{f:Fn}(hx:P.cls x=Za f)(hg:S.gl x=Zd){args:List Expr}(ha:args.all Jp=Zd){g:Expr->E1}(hf:∀e,PEi ce X e (g e)){p pos:Pos} :
  PEi ce X (.Call (.Name x p) args [] pos) (Jlw x f args.length (aAll (args.map g))):=by
 obtain⟨C,fa,fd,ps,hm,hC,M,D⟩:=G.pg.cls x f hx
 obtain⟨gl,hdb,_⟩:=G.gl hg
 unfold Jlw
 cases hd:f.fill (args.length+1) with
 | none=>exact Jf
 | some d =>
  obtain⟨ds,hb,hl,q⟩:=Jh0 D hd
  cases args with
  | nil=>exact Jwk M D.ok hC G.room gl hm hb q (by simp at hl;omega) hdb
  | cons a es =>
   have ha':=ha
   simp only[Zaf,Zl] at ha'
   refine Jzj M D.ok hC G.room gl hm hb q (Qu ha hf) (λ σ h xs h' e=>?_) hdb (Jr ha'.1) (VL ha'.2)
   have:=XC _ σ h xs h' e
   rw[Zp] at this
   omega
theorem Jo0 (G:Good ce k P S X)(m:Str)(n:Nat):Jn6 ce X m n (Vu P m n):=by
 intro c f dvs h
 unfold Vu at h
 cases hm:P.meth c m with
 | none=>rw[hm] at h;cases h
 | some fn =>
  rw[hm] at h
  dsimp only at h
  cases hd:fn.fill (n+1) with
  | none=>rw[hd] at h;cases h
  | some d =>
   rw[hd] at h
   cases h
   obtain⟨C,fa,fd,ps,hC,hcl,hM,D⟩:=G.pg.meth c m fn hm
   obtain⟨ds,hb,hl,q⟩:=Jh0 D hd
   exact⟨C,fa,fd,k,ps,ds,hC,hcl,hM,D.ok,G.room.mono (ZaC k),hb,q,by omega⟩
theorem J1p {T:String}{m:Str}{n:Nat}{g:IV->List IV->IH->Res IV}(h:bmOf T m n=Za g):∃id,PlainAttrs T/\Slot T m id/\Ze7 (.builtin id)=pure (.type "method_descriptor")/\MtI ce X T id g:=by
 unfold bmOf at h
 split at h
 ·rename_i hm
  simp only[Zl,beq_iff_eq] at hm
  obtain⟨⟨rfl,rfl⟩,_⟩:=hm
  cases h
  exact⟨_,ZbQ,PySem.F.slot_list_append,PySem.F.type_list_append,Jsx⟩
 ·split at h
  ·rename_i hm
   simp only[Zl,beq_iff_eq] at hm
   obtain⟨⟨rfl,rfl⟩,_⟩:=hm
   cases h
   exact⟨_,ZbQ,PySem.F.slot_list_extend,PySem.F.type_list_extend,Jsy⟩
  ·split at h
   ·rename_i hm
    simp only[Zl,beq_iff_eq] at hm
    obtain⟨⟨rfl,rfl⟩,_⟩:=hm
    cases h
    exact⟨_,ZbQ,PySem.F.slot_list_remove,PySem.F.type_list_remove,Js0⟩
   ·split at h
    ·rename_i hm
     simp only[Zl,beq_iff_eq] at hm
     obtain⟨⟨rfl,rfl⟩,_⟩:=hm
     cases h
     exact⟨_,PySem.F.plainAttrs_dict,Zdi,PySem.F.type_dict_setdefault,Js1⟩
    ·cases h
theorem J0z {o:Expr}{m:Str}{mo:E1}{args:List Expr}{f:Expr->E1}{ap pos:Pos}{T:String}{g:IV->List IV->IH->Res IV}{n:Nat}(hg:bmOf T m n=Za g)(ho:PEi ce X o mo)(hf:∀e,PEi ce X e (f e))(ha:args.all Jp=Zd)(hb:QS o=Zd)(hl:(ap.endLine==pos.line)=Zd)(hn:args.length<30) :
  PEi ce X (.Call (.Attribute o m ap) args [] pos) (eBm T g mo (aAll (args.map f))):=by
 obtain⟨id,pa,sl,ty,mt⟩:=J1p (ce:=ce) (X:=X) hg
 cases args with
 | nil=>exact J12 pa sl ty mt ho (XE hb) hl
 | cons a es =>
  have ha':=ha
  simp only[Zaf,Zl] at ha'
  exact i_bm pa sl ty mt ho (Qu ha hf) (XE hb) (Jpl ha hn) hl (Jr ha'.1) (VL ha'.2)
theorem Jxp (G:Good ce k P S X){o:Expr}{m:Str}{mo:E1}{args:List Expr}{f:Expr->E1}{ap pos:Pos}(ho:PEi ce X o mo)(hf:∀e,PEi ce X e (f e))(ha:args.all Jp=Zd)(hb:QS o=Zd)(hl:(ap.endLine==pos.line)=Zd)(hn:args.length<30) :
  PEi ce X (.Call (.Attribute o m ap) args [] pos) (J0 P m args.length mo (aAll (args.map f))):=by
 refine J2p λ σi h=>?_
 unfold J0
 cases e:mo σi h with
 | exc n h1=>exact⟨λ _ _=>.stuck,rfl,Jf⟩
 | stuck=>exact⟨λ _ _=>.stuck,rfl,Jf⟩
 | ok v h1 =>
  dsimp only
  split
  ·refine⟨_,rfl,?_⟩
   cases args with
   | nil=>exact Jwm ho (Jo0 G m 0) (Jgk hb ha hl hn)
   | cons a es =>
    have ha':=ha
    simp only[Zaf,Zl] at ha'
    refine Jzm ho (Jo0 G m (a::es).length) (Qu ha hf) (λ σ h xs h' e=>?_) (Jr ha'.1) (VL ha'.2) (Jgk hb ha hl hn)
    have:=XC _ σ h xs h' e
    rwa [Zp] at this
  ·cases hg:bmOf (tyS v h1) m args.length with
   | none=>exact⟨λ _ _=>.stuck,rfl,Jf⟩
   | some g=>exact⟨_,rfl,J0z hg ho hf ha hb hl hn⟩
theorem Jqq (G:Good ce k P S X){o:Expr}{m:Str}{e:E1}{args:List Expr}{f:Expr->E1}{ap pos:Pos}(he:PEi ce X (.Call (.Attribute o m ap) args [] pos) e)(hf:∀e,PEi ce X e (f e))(ha:args.all Jp=Zd)(hb:QS o=Zd)(hl:(ap.endLine==pos.line)=Zd)(hn:args.length<30) :
  PEi ce X (.Call (.Attribute o m ap) args [] pos) (Jr5 P S m args.length o (aAll (args.map f)) e):=by
 unfold Jr5
 split
 ·rename_i hq
  cases o with
  | Name x q =>
   simp only[Jvo,Zl,beq_iff_eq,decide_eq_true_eq] at hq
   obtain⟨⟨⟨rfl,hg⟩,hx⟩,hz⟩:=hq
   obtain⟨D,hm,B⟩:=G.pg.xb x hx
   obtain⟨gl,hdb,_⟩:=G.gl hg
   cases args with
   | nil=>exact absurd rfl hz
   | cons a es =>
    have ha':=ha
    simp only[Zaf,Zl] at ha'
    refine Jwe (λ c C hc hC=>?_) gl hm B (Qu ha hf) hdb (Jr ha'.1) (VL ha'.2) (Jgk hb ha hl hn)
    obtain⟨g,hg⟩:=Za6.mp hc
    obtain⟨C',fa,fd,ps,_,c2,c3,_⟩:=G.pg.xo c g hg
    rw[hC] at c2
    cases c2
    exact⟨fa,c3⟩
  | _=>simp[Jvo] at hq
 ·exact he
theorem Jxq (G:Good ce k P S X){a:Expr}{ma:E1}{y:Str}{p p2 pos:Pos}(ha:PEi ce X a ma)(hs:Jp a=Zd)(hg:S.gl "isinstance"=Zd)(hfr:P.free "isinstance"=Zd)(hy:S.gl y=Zd) :
  PEi ce X (.Call (.Name "isinstance" p) [a,.Name y p2] [] pos) (Jvx (Jrv P y) ma):=by
 unfold Jvx
 cases e:Jrv P y with
 | none=>exact Jf
 | some ans =>
  obtain⟨gy,ydb,yn⟩:=G.gl hy
  have fin:∀{c:Ze},ClsE X (.Name y p2) c->IsOk ce X.K c ans->PEi ce X (.Call (.Name "isinstance" p) [a,.Name y p2] [] pos) (eIsi ans ma):=λ hc O =>
   Jzh hc O ha (G.gl hg).1 (G.pg.free _ hfr) rfl (Jr hs) rfl rfl
  unfold Jrv at e
  cases hi:P.isa y with
  | some g =>
   rw[hi] at e
   cases e
   obtain⟨c,hm,O⟩:=G.pg.isa y g hi
   exact fin (Jkm gy hm ydb) O
  | none =>
   rw[hi] at e
   dsimp only at e
   split at e
   ·rename_i hf
    have hm:=G.pg.free y hf
    split at e
    ·rename_i q;cases (beq_iff_eq.mp q);cases e;exact fin (VA gy hm rfl yn ydb) Jso
    ·split at e
     ·rename_i q;cases (beq_iff_eq.mp q);cases e;exact fin (VA gy hm rfl yn ydb) Jpv
     ·split at e
      ·rename_i q;cases (beq_iff_eq.mp q);cases e;exact fin (VA gy hm rfl yn ydb) Jsp
      ·split at e
       ·rename_i q
        cases (beq_iff_eq.mp q)
        cases e
        refine fin (VA gy hm rfl yn ydb) ?_
        split
        ·rename_i q
         refine Jnj λ C hC=>?_
         obtain⟨C',h1,_,h2⟩:=G.pg.ne _ q
         cases hC.symm.trans h1
         exact h2
        ·exact Jjo
       ·split at e
        ·rename_i q;cases (beq_iff_eq.mp q);cases e;exact fin (VA gy hm rfl yn ydb) Jsq
        ·cases e
   ·cases e
theorem Jtn (G:Good ce k P S X){a:Expr}{ma:E1}{x:Str}{p pos:Pos}(ha:PEi ce X a ma)(hs:Jp a=Zd)(hg:S.gl x=Zd)(hfr:P.free x=Zd)(hx:Jpt x=Zd) :
  PEi ce X (.Call (.Name x p) [a] [] pos) (eCB (bltF x) (Jb ma Jd)):=by
 obtain⟨gx,xdb,xn⟩:=G.gl hg
 have hm:=G.pg.free x hfr
 have hh:=G.room.hd
 have pa:PAi ce X [a] (Jb ma Jd):=Qa ha Qc (Jr hs)
 unfold Jpt at hx
 simp only[Za4,beq_iff_eq] at hx
 rcases hx with((rfl|rfl)|rfl)|rfl
 ·exact VB Jyu gx hm rfl pa xn xdb (Jr hs) rfl
 ·exact VB (J1q hh) gx hm rfl pa xn xdb (Jr hs) rfl
 ·exact VB (J1t hh) gx hm rfl pa xn xdb (Jr hs) rfl
 ·exact VB Jrz gx hm rfl pa xn xdb (Jr hs) rfl
theorem Jto (G:Good ce k P S X){a:Expr}{ma:E1}{x:Str}{p pos:Pos}(ha:PEi ce X a ma)(hs:Jp a=Zd)(hg:S.gl x=Zd)(hfr:P.free x=Zd)(hx:Jpu x=Zd) :
  PEi ce X (.Call (.Name x p) [a] [] pos) (eCB (bltT x) (Jb ma Jd)):=by
 obtain⟨gx,xdb,xn⟩:=G.gl hg
 have hm:=G.pg.free x hfr
 have pa:PAi ce X [a] (Jb ma Jd):=Qa ha Qc (Jr hs)
 unfold Jpu at hx
 simp only[Za4,beq_iff_eq] at hx
 rcases hx with rfl|rfl
 ·exact Jpn Jyv gx hm rfl pa xn xdb (Jr hs) rfl
 ·exact Jpn Jvp gx hm rfl pa xn xdb (Jr hs) rfl
theorem Jqr (G:Good ce k P S X){f:Expr->E1}(hf:∀e,PEi ce X e (f e)){x:Str}{args:List Expr}{p pos:Pos}(hg:S.gl x=Zd)(ha:args.all Jp=Zd)(hfr:P.free x=Zd) :
  PEi ce X (.Call (.Name x p) args [] pos) (Jhv P S x f args):=by
 unfold Jhv
 split
 ·rename_i a b
  simp only[Zaf,Zl] at ha
  obtain⟨gx,xdb,xn⟩:=G.gl hg
  have hm:=G.pg.free x hfr
  have pa:PAi ce X [a,b] (Jb (f a) (Jb (f b) Jd)):=Qa (hf a) (Qa (hf b) Qc (Jr ha.2.1)) (Jr ha.1)
  have h1:∀pos,(ZaX pos (Z9 [b] X.env)).any (·.1)=Zh:=λ pos=>VL (by simp[ha.2.1])
  split
  ·rename_i hs
   cases (beq_iff_eq.mp hs)
   exact VB (J1r G.calm) gx hm rfl pa xn xdb (Jr ha.1) (h1 _)
  ·split
   ·rename_i hs
    cases (beq_iff_eq.mp hs)
    exact VB (J1s G.calm) gx hm rfl pa xn xdb (Jr ha.1) (h1 _)
   ·split
    ·rename_i y p2 _
     split
     ·rename_i hs
      simp only[Zl,beq_iff_eq] at hs
      obtain⟨rfl,hy⟩:=hs
      exact Jxq G (hf a) ha.1 hg hfr hy
     ·exact Jf
    ·exact Jf
 ·rename_i a
  simp only[Zaf,Zl] at ha
  split
  ·rename_i e he
   split at he
   ·rename_i hc
    simp only[Zl,beq_iff_eq] at hc
    obtain⟨⟨rfl,g2⟩,f2⟩:=hc
    unfold Ju8 at he
    split at he
    ·split at he
     ·rename_i hq
      simp only[Zl,beq_iff_eq] at hq
      obtain⟨rfl,ns⟩:=hq
      cases he
      exact Jsl G.room.hd (G.gl hg).1 (G.pg.free _ hfr) (G.gl g2).1 (G.pg.free _ f2) (Qa (hf e) Qc (Jr ns)) (Jr ns)
     ·cases he
    ·cases he
   ·cases he
  ·split
   ·rename_i e he
    split at he
    ·rename_i hc
     simp only[Zl,beq_iff_eq] at hc
     obtain⟨⟨rfl,g2⟩,f2⟩:=hc
     unfold Ju3 at he
     split at he
     ·split at he
      ·rename_i hq
       simp only[Zl,beq_iff_eq] at hq
       obtain⟨rfl,ns⟩:=hq
       cases he
       exact Jpp G.room.hd (G.gl hg).1 (G.pg.free _ hfr) (G.gl g2).1 (G.pg.free _ f2) (Qa (hf e) Qc (Jr ns)) (Jr ns)
      ·cases he
     ·cases he
    ·cases he
   ·split
    ·rename_i hb
     exact Jtn G (hf a) ha.1 hg hfr hb
    ·split
     ·rename_i hb
      exact Jto G (hf a) ha.1 hg hfr hb
     ·exact Jf
 ·exact Jf
theorem Qw.of (G:Good ce k P S X){y:Str}{sc:ZaY}(h:Qw S y sc=Zd):LamSc X.N X.env.scope.names y (JW sc) (jsOf S sc) sc:=by
 rw[G.n,G.sc]
 simp only[Qw,Zl,beq_iff_eq,ZaO,decide_eq_true_eq,ZbO,Za4,beq_eq_false_iff_ne] at h
 obtain⟨⟨⟨⟨⟨⟨⟨h1,h2⟩,h3⟩,h4⟩,h5⟩,h6⟩,h7⟩,h8⟩:=h
 refine⟨h1,h2,h3,h4,h5,λ z hz e=>(h6 z hz).resolve_left λ q=>q e,λ z e=>Zae e,λ i j z ej ez=>?_,by simp[jsOf],h8⟩
 unfold jsOf at ej
 rw[Z7,ez] at ej
 cases ej
 exact h7 z (Zcg ez)
theorem Good.lam (G:Good ce k P S X)(ho:S.own=Zd){y:Str}{sc:ZaY}(h:Qw S y sc=Zd)(f:Zj)(cd:Ze)(s:Zk)(H:Hp):Good ce k P (S.lam y sc) (cxL X X.A.in1 (y::JW sc) S.q sc f cd s H):=by
 have L:=Qw.of G h
 exact⟨rfl,rfl,L.nd,L.kind,rfl,(G.room3 ho).in1.deeper _,λ z=>absurd z Zq,G.pg,λ z=>absurd z Zq,λ z=>absurd z Zq,λ z=>absurd z Zq⟩
theorem Good.lam2 (G:Good ce k P S X)(ho:S.own=Zd){y:Str}{sc:ZaY}(h:Qw S y sc=Zd)(f:Zj)(cd:Ze)(s:Zk)(H:Hp):Good ce k P (S.lam y sc) (cxL X X.A.in1.in1 (y::JW sc) S.q sc f cd s H):=by
 have L:=Qw.of G h
 have R:=G.room3 ho
 refine⟨rfl,rfl,L.nd,L.kind,rfl,⟨R.hd,?_,?_⟩,λ z=>absurd z Zq,G.pg,λ z=>absurd z Zq,λ z=>absurd z Zq,λ z=>absurd z Zq⟩
 ·have:=R.dp
  show X.A.depth+1+3*(k+1)+5<_
  omega
 ·have:=R.un
  show X.A.units+1+1+3+16*(k+1)+200<_
  omega
theorem Jqs (G:Good ce k P S X){f:Sc->Expr->E1}(hf:∀S X e,Good ce k P S X->PEi ce X e (f S e)){x y:Str}{a d:Expr}{p pos kp:Pos}:PEi ce X (.Call (.Name x p) [a] [⟨Za y,d,kp⟩] pos) (J01 P S f x a y d):=by
 cases d with
 | Lambda ps body sc lp =>
  show PEi ce X _ (match QO ps,P.tabs S.q with|some z,Za j=>if x=="sorted"&&y=="key"&&S.gl x&&P.free x&&Jp a&&S.own&&Qw S z sc then Xb S.q j (jsOf S sc) (Jb (f S a) Jd) (f (S.lam z sc) body) else stE|_,_=>stE)
  cases hy:QO ps with
  | none=>exact Jf
  | some z =>
   cases hj:P.tabs S.q with
   | none=>exact Jf
   | some j =>
    dsimp only
    split
    ·rename_i hq
     simp only[Zl,beq_iff_eq] at hq
     obtain⟨⟨⟨⟨⟨⟨rfl,rfl⟩,g1⟩,f1⟩,ns⟩,ho⟩,ok⟩:=hq
     exact Jwo (k:=k) (G.gl g1).1 (G.pg.free _ f1) (Qa (hf _ _ _ G) Qc (Jr ns)) (Jr ns) (G.room3 ho) (G.code ho).1 (G.code ho).2 (G.pg.blt _ _ hj) hy (Qw.of G ok) λ f cd s' H'=>hf _ _ _ (G.lam2 ho ok f cd s' H')
    ·exact Jf
 | _=>exact Jf
theorem J00 (G:Good ce k P S X){f:Sc->Expr->E1}(hf:∀S X e,Good ce k P S X->PEi ce X e (f S e)){x:Str}{args:List Expr}{kws:List Zdo}{p pos:Pos}:PEi ce X (.Call (.Name x p) args kws pos) (Jpz P S f x args kws):=by
 unfold Jpz
 split
 ·split
  ·rename_i hq
   simp only[Zl,beq_iff_eq] at hq
   obtain⟨⟨⟨⟨rfl,rfl⟩,g1⟩,f1⟩,ns⟩:=hq
   exact Jzk G.room.hd (G.gl g1).1 (G.pg.free _ f1) (Qa (hf _ _ _ G) Qc (Jr ns)) (hf _ _ _ G) (Jr ns)
  ·split
   ·exact Jqs G hf
   ·exact Jf
 ·split
  ·rename_i y j hy hj
   split
   ·rename_i hq
    simp only[Zl,beq_iff_eq] at hq
    obtain⟨⟨⟨⟨⟨⟨⟨rfl,rfl⟩,rfl⟩,g1⟩,f1⟩,ns⟩,ho⟩,ok⟩:=hq
    exact Jzl (k:=k+1) (G.gl g1).1 (G.pg.free _ f1) (Qa (hf _ _ _ G) Qc (Jr ns)) (hf _ _ _ G) (Jr ns) (G.room3 ho) (G.code ho).1 (G.code ho).2 (G.pg.blt _ _ hj) hy (Qw.of G ok) λ f cd s' H'=>hf _ _ _ (G.lam ho ok f cd s' H')
   ·exact Jf
  ·exact Jf
 ·exact Jf
theorem Jts (ih:Snd ce k P n):Snd ce k P (n+1):=by
 refine⟨λ S X e G=>?_,λ S X e G=>?_,λ S X e G=>?_,λ S X x args p pos G hg ha=>?_,λ S X tg e G=>?_,λ S X e G=>?_⟩
 ·have ihe:=λ e=>ih.e S X e G
  have hu:=G.room.units
  cases e with
  | Constant c j p =>
   cases c with
   | int i=>exact Jzg
   | bool b=>exact i_bl
   | none=>exact Jzn
   | str x=>exact Jzp
   | _=>exact Jf
  | Name x p =>
   show PEi ce X (.Name x p) (match S.vis x with|some i=>Ja i|none=>if S.gl x then(match P.con x with|some v=>eC v|none=>stE) else stE)
   cases hv:S.vis x with
   | some i =>
    obtain⟨h1,h2,h3,h4⟩:=G.vis hv
    exact Jwp i h1 h2 h3 h4
   | none =>
    dsimp only
    split
    ·rename_i hg
     obtain⟨gx,xdb,_⟩:=G.gl hg
     cases hc:P.con x with
     | none=>exact Jf
     | some v =>
      obtain⟨u,y,hm,r,q⟩:=G.pg.con x v hc
      exact Jzf gx hm r q xdb
    ·exact Jf
  | BinOp a op b p=>exact Jza (Jz8 op) (ihe a) (ihe b)
  | UnaryOp op a p=>exact i_un (o_un op) (ihe a)
  | BoolOp op vs p =>
   cases op with
   | And=>exact Jo2 ihe vs
   | Or=>exact Jvz ihe vs
  | IfExp t a b p=>exact Jwi (ih.t S X t G) (ihe a) (ihe b)
  | Compare a ops cs p =>
   match ops,cs with
   | [o],[b] =>
    show PEi ce X _ (if Zbj o b then stE else Jc (cmpD P.ne o b) (ev P n S a) (ev P n S b))
    split
    ·exact Jf
    ·rename_i hb
     exact Jzc (Ju1 hu (λ c z=>let ⟨C,p,q,_⟩:=G.pg.ne c z;⟨C,p,q⟩) o b) (ihe a) (ihe b) (Zba.mpr hb)
   | [o,o'],[b,c] =>
    show PEi ce X _ (if ZdO [o,o'] [b,c] then stE else Q9 (cmpI o) (cmpI o') (ev P n S a) (ev P n S b) (ev P n S c))
    split
    ·exact Jf
    ·rename_i hb
     exact Jwg (VH hu o) (VH hu o') (ihe a) (ihe b) (ihe c) (Zba.mpr hb)
   | [],_=>exact Jf
   | [_],[]=>exact Jf
   | [_],_::_::_=>exact Jf
   | [_,_],[]=>exact Jf
   | [_,_],[_]=>exact Jf
   | [_,_],_::_::_::_=>exact Jf
   | _::_::_::_,_=>exact Jf
  | Tuple es j p =>
   show PEi ce X _ (if es.all Jp then eTup (aAll (es.map (ev P n S))) else stE)
   split
   ·rename_i hs
    exact Jzq (Qu hs ihe)
   ·exact Jf
  | List es p =>
   show PEi ce X _ (if es.all Jp then eLst (aAll (es.map (ev P n S))) else stE)
   split
   ·rename_i hs
    exact Jzi (Qu hs ihe)
   ·exact Jf
  | Dict ks vs p =>
   match ks,vs with
   | [Za k],[v]=>exact Jf
   | [],[]=>exact Jzd
   | [],_::_=>exact Jf
   | [Zc],_=>exact Jf
   | [Za _],[]=>exact Jf
   | [Za _],_::_::_=>exact Jf
   | some _::_::_,_=>exact Jf
   | none::_::_,_=>exact Jf
  | Subscript a i p =>
   cases i with
   | Slice lo hi st q =>
    cases st with
    | none=>exact Jwn x_sl (ihe a) (ih.o S X lo G) (ih.o S X hi G)
    | some st=>exact Jf
   | _=>exact i_ix (J23 a) (ihe a) (ihe _) (Jl0 rfl)
  | Attribute o f p =>
   show PEi ce X _ (if QS o&&P.fld f then eFld f (ev P n S o) else stE)
   split
   ·rename_i hs
    simp only[Zl] at hs
    exact J13 (ihe o) (G.pg.fld f hs.2) (XE hs.1)
   ·exact Jf
  | Call f args kws p =>
   cases kws with
   | cons kw kws =>
    cases f with
    | Name x q=>exact J00 G λ S X e G=>ih.e S X e G
    | _=>exact Jf
   | nil =>
    cases f with
    | Name x q =>
     show PEi ce X _ (if S.gl x&&args.all Jp then Jo4 P n S x args else stE)
     split
     ·rename_i hs
      simp only[Zl] at hs
      exact ih.c S X x args q p G hs.1 hs.2
     ·exact Jf
    | Attribute o m ap =>
     show PEi ce X _ (if args.all Jp&&QS o&&(ap.endLine==p.line)&&decide (args.length<30) then Jr5 P S m args.length o (aAll (args.map (ev P n S))) (J0 P m args.length (ev P n S o) (aAll (args.map (ev P n S)))) else stE)
     split
     ·rename_i hs
      simp only[Zl,decide_eq_true_eq] at hs
      exact Jqq G (Jxp G (ihe o) ihe hs.1.1.1 hs.1.1.2 hs.1.2 hs.2) ihe hs.1.1.1 hs.1.1.2 hs.1.2 hs.2
     ·exact Jf
    | _=>exact Jf
  | ListComp elt gens sc p =>
   match gens with
   | [⟨tg,iter,ifs,as⟩] =>
    show PEi ce X _ (if as=0/\VG iter=Zd/\Qe S.N (Qj sc) (JW sc) (jsOf S sc) S.fake sc=Zd then
     Jow ifs (evT P n (S.comp sc)) (λ mt=>Ju (evI P n S tg iter) (Qj sc).length (jsOf S sc) (tgt P n (S.comp sc) tg) mt (ev P n (S.comp sc) elt)) else stE)
    split
    ·rename_i hs
     obtain⟨rfl,hi,ok⟩:=hs
     have Gc:=G.comp ok
     have ok':=ok
     rw[<- Jf7 G] at ok'
     match ifs with
     | []=>exact Jus G.calm (ih.i S X tg iter G) (λ C s H fp=>ih.g _ _ tg (Gc C s H fp)) (λ C s H fp=>Jvc) (λ C s H fp=>ih.e _ _ elt (Gc C s H fp)) ok' G.n rfl (Xd hi)
     | [c]=>exact Jus G.calm (ih.i S X tg iter G) (λ C s H fp=>ih.g _ _ tg (Gc C s H fp)) (λ C s H fp=>Jq1 (ih.t _ _ c (Gc C s H fp))) (λ C s H fp=>ih.e _ _ elt (Gc C s H fp)) ok' G.n rfl (Xd hi)
     | _::_::_=>exact Jf
    ·exact Jf
   | []=>exact Jf
   | ⟨_,_,_,_⟩::_::_=>exact Jf
  | _=>exact Jf
 ·have ihe:=λ e=>ih.e S X e G
  have hu:=G.room.units
  cases e with
  | UnaryOp op a p =>
   cases op with
   | Not=>exact J03 (ih.t S X a G)
   | _=>exact Jtz VM (ihe _)
  | BoolOp op vs p =>
   cases op with
   | And=>exact(Jqz (λ e=>ih.t S X e G) vs).t
   | Or=>exact(Jxw (λ e=>ih.t S X e G) vs).t
  | IfExp t a b p=>exact Jf
  | Compare a ops cs p =>
   match ops,cs with
   | [o],[b] =>
    show PTi ce X _ (if Zbj o b then stT else Ji asB (Jc (cmpD P.ne o b) (ev P n S a) (ev P n S b)))
    split
    ·exact Jf
    ·rename_i hb
     exact J02 (Ju1 hu (λ c z=>let ⟨C,p,q,_⟩:=G.pg.ne c z;⟨C,p,q⟩) o b) (ihe a) (ihe b) (Zba.mpr hb)
   | [o,o'],[b,c] =>
    show PTi ce X _ (if ZdO [o,o'] [b,c] then stT else Ji asB (Q9 (cmpI o) (cmpI o') (ev P n S a) (ev P n S b) (ev P n S c)))
    split
    ·exact Jf
    ·rename_i hb
     exact Jxv (VH hu o) (VH hu o') (ihe a) (ihe b) (ihe c) (Zba.mpr hb)
   | [],_=>exact Jf
   | [_],[]=>exact Jf
   | [_],_::_::_=>exact Jf
   | [_,_],[]=>exact Jf
   | [_,_],[_]=>exact Jf
   | [_,_],_::_::_::_=>exact Jf
   | _::_::_::_,_=>exact Jf
  | _=>exact Jtz VM (ihe _)
 ·cases e with
  | none=>exact J0h
  | some e=>exact J0i (ih.e S X e G)
 ·have ihe:=λ e=>ih.e S X e G
  show PEi ce X _ (match P.fn x with
  | some f=>Jlu f args.length (aAll (args.map (ev P n S)))
  | none=>match P.cls x with
   | some f=>Jlw x f args.length (aAll (args.map (ev P n S)))
   | none=>if P.free x then Jhv P S x (ev P n S) args else stE)
  cases hx:P.fn x with
  | some f=>exact Jtp G hx hg ha ihe
  | none =>
   dsimp only
   cases hc:P.cls x with
   | some f=>exact Jtq G hc hg ha ihe
   | none =>
    dsimp only
    split
    ·rename_i hfr
     exact Jqr G ihe hg ha hfr
    ·exact Jf
 ·have ihe:=λ e=>ih.e S X e G
  cases e with
  | Call f args kws p =>
   cases kws with
   | cons _ _=>cases f<;>exact Jsk (ihe _)
   | nil =>
    cases f with
    | Name x q =>
     show PIi ce X tg _ (if S.gl x&&P.free x&&args.all Jp&&(x=="range") then Jy9 args.length (aAll (args.map (ev P n S)))
      else if S.gl x&&P.free x&&args.all Jp&&(x=="enumerate") then(match tg,args with
       | .Tuple ..,[a]=>iRg QM (Jb (ev P n S a) Jd)
       | _,_=>stI)
      else if S.gl x&&P.free x&&args.all Jp&&(x=="reversed") then(match args with
       | [a]=>iRg Vj (Jb (ev P n S a) Jd)
       | _=>stI)
      else J1 (ev P n S (.Call (.Name x q) args [] p)))
     split
     ·rename_i hs
      simp only[Zl,beq_iff_eq] at hs
      obtain⟨⟨⟨hg,hf⟩,ha⟩,rfl⟩:=hs
      obtain⟨gx,_,_⟩:=G.gl hg
      have hm:=G.pg.free _ hf
      have pa:=Qu ha ihe
      match args,ha,pa with
      | [],_,_=>exact XZ
      | [a],ha,pa =>
       simp only[Zaf,Zl] at ha
       exact Jsm gx hm pa (Jr ha.1)
      | [a,b],ha,pa =>
       simp only[Zaf,Zl] at ha
       exact Jsn gx hm pa (by rw[Jr ha.1,Jr ha.2.1];rfl) (Jr ha.2.1)
      | _::_::_::_,_,_=>exact XZ
     ·split
      ·rename_i hs
       simp only[Zl,beq_iff_eq] at hs
       obtain⟨⟨⟨hg,hf⟩,ha⟩,rfl⟩:=hs
       obtain⟨gx,_,_⟩:=G.gl hg
       have hm:=G.pg.free _ hf
       split
       ·simp only[Zaf,Zl] at ha
        exact Jze gx hm (Qa (ihe _) Qc (Jr ha.1)) (Jr ha.1)
       ·exact XZ
      ·split
       ·rename_i hs
        simp only[Zl,beq_iff_eq] at hs
        obtain⟨⟨⟨hg,hf⟩,ha⟩,rfl⟩:=hs
        obtain⟨gx,_,_⟩:=G.gl hg
        have hm:=G.pg.free _ hf
        split
        ·simp only[Zaf,Zl] at ha
         exact J14 gx hm (Qa (ihe _) Qc (Jr ha.1)) (Jr ha.1)
        ·exact XZ
       ·exact Jsk (ihe _)
    | _=>exact Jsk (ihe _)
  | _=>exact Jsk (ihe _)
 ·cases e with
  | Name x p =>
   show PGi ce X _ (match S.sto x with|some i=>gNm i|none=>stG)
   cases hv:S.sto x with
   | none=>exact Jfj
   | some i =>
    obtain⟨h1,h2,h3⟩:=G.sto hv
    exact g_nm G.nodup h1 h2 h3
  | Tuple es j p =>
   show PGi ce X _ (if es.all Jp then gTp es.length (gAll (es.map (tgt P n S))) else stG)
   split
   ·rename_i hs
    exact J1y G.calm (Jur hs λ e=>ih.g S X e G) (Jui hs) (Jog hs)
   ·exact Jfj
  | _=>exact Jfj
theorem Jil (ce:CeT)(k:Nat)(P:Pg):∀n,Snd ce k P n
 | 0=>Jtt
 | n+1=>Jts (Jil ce k P n)
end
section
variable {ce:CeT}{X:Cx}{pos:Pos}
theorem Jxl {c:Expr}{body:List Zb2}{mt:T1}{mb:S1}(hst:X.stack=X.env::X.outer)(hf:X.env.frame=Za X.env.locals)(hc:PTi ce X c mt)(hb:PS2 ce X body mb):PS1 ce X (.While c body [] pos) (VJ mt mb):=by
 intro pj s σ H ι σi h Q E N K
 rw[Jgm] at K
 generalize VO=m0 at K
 refine wpAny_While (codeAny_whileLoop (λ n s'=>∃ιk σk hk σ' H',Now ce X pj ιk σk hk σ' H' s'/\Nxt ι H ιk H'/\JD ce X pj ιk H' (Q2 mt mb n σk hk) Q E) ?_ m0 ⟨ι,σi,h,σ,H,N,.refl,K⟩)
 rintro n s1 ⟨ι1,σ1i,h1,σ1,H1,N1,n1,K1⟩
 cases n with
 | zero=>exact Zf K1
 | succ n =>
  unfold Q2 at K1
  refine nof (hc pj s1 σ1 H1 ι1 σ1i h1 _ (λ _ _=>False) N1 ?_)
  cases et:mt σ1i h1 with
  | exc m h2=>rw[et] at K1;exact Zf K1
  | stuck=>rw[et] at K1;exact Zf K1
  | ok b h2 =>
   rw[et] at K1
   intro b' s2 H2 ι2 N2 n2 r2
   have r':b'=b:=r2
   subst r'
   dsimp only at K1
   cases b' with
   | false=>exact ZbU (K1 s2 σ1 H2 ι2 N2 n2)
   | true =>
    rw[if_pos rfl]
    rw[if_pos rfl] at K1
    refine hb pj s2 σ1 H2 ι2 σ1i h2 _ _ N2 ?_
    cases eb:mb σ1i h2 with
    | next σ3 h3 =>
     rw[eb] at K1
     exact λ s3 σ3' H3 ι3 N3 n3=>⟨n,ZaV n,ι3,σ3,h3,σ3',H3,N3,(n1.trans n2).trans n3,JD.mono (r:=Q2 mt mb n σ3 h3) K1 (n2.trans n3)⟩
    | cont σ3 h3 =>
     rw[eb] at K1
     exact λ s3 σ3' H3 ι3 N3 n3=>⟨n,ZaV n,ι3,σ3,h3,σ3',H3,N3,(n1.trans n2).trans n3,JD.mono (r:=Q2 mt mb n σ3 h3) K1 (n2.trans n3)⟩
    | brk σ3 h3 =>
     rw[eb] at K1
     exact λ s3 σ3' H3 ι3 N3 n3=>K1 s3 σ3' H3 ι3 N3 (n2.trans n3)
    | ret v h3 =>
     rw[eb] at K1
     exact λ u s3 σ3i σ3' H3 ι3 N3 n3 r=>K1 u s3 σ3i σ3' H3 ι3 N3 (n2.trans n3) r
    | exc m σ3 h3 =>
     rw[eb] at K1
     dsimp only at K1
     cases hj:h3[m]? with
     | none=>rw[hj] at K1;exact Zf K1
     | some ob =>
      cases ob with
      | exc c fs =>
       rw[hj] at K1
       intro pl a s7 σ7 H7 ι7 N7 n7 q s8 fl
       obtain⟨C,tv,d,fe,hC,ha,ht⟩:=N7.rel.get hj q
       have back:∀h8,Noted X.env.locals (frs X.stack) a s7.heap h8->Ze6 (Z3 X.prog X.w) X.A X.env E (.ref a) { s7 with heap:=h8 }:=λ h8 n8 =>
        Jhh hf n8 λ h9 n9=>K1 pl a s7 σ7 H7 ι7 N7 (n2.trans n7) q _ (.inr ⟨h9,rfl,n9⟩)
       rcases fl with rfl|⟨h8,rfl,n8⟩
       ·exact Jia N7.inv hst hf ha ht back
       ·exact Jdi hf n8 (back h8 n8)
      | _=>rw[hj] at K1;exact Zf K1
    | stuck=>rw[eb] at K1;exact Zf K1
end
section
variable {ce:CeT}{k:Nat}{P:Pg}{n:Nat}{S:Sc}{X:Cx}
theorem QE {f:Zb2->S1}(hf:∀s,PS1 ce X s (f s)):∀(l:List Zb2),PS2 ce X l (sAll (l.map f))
 | []=>J0p
 | [a]=>J0q (hf a)
 | a::b::r=>Jxf (hf a) (QE hf (b::r))
end
section
variable {ce:CeT}{k:Nat}{P:Pg}{S:Sc}{X:Cx}{xi:Xi}{xf:Str->Str->Bool}{fr:Str->Bool}
theorem Jsf (G:Good ce k P S X)(O:XiOk X.K X.mg xi xf)(hi:∀x,fr x=Zd->X.mg x=Zc)(a:Zj){f:Expr}{as:List Expr}{ks:List Zdo}{p:Pos}{m:Expr->E1}(hm:∀e,PEi ce (Jj X a) e (m e)):PEi ce (Jj X a) (.Call f as ks p) (Jv7 S xi fr f as ks p m):=by
 unfold Jv7
 split
 ·rename_i x q b D q2
  split
  ·rename_i h
   simp only[Zl,beq_iff_eq] at h
   obtain⟨⟨⟨⟨rfl,h0⟩,h1⟩,h2⟩,h3⟩:=h
   cases hx:xi D with
   | none=>exact Jf
   | some g =>
    obtain⟨v,hv,hg⟩:=O.1 D g hx
    obtain⟨gD,db,nn⟩:=G.gl h2
    have hc:ClsE (Jj X a) (.Name D q2) v:=by
     rcases hv with z|⟨z,w⟩
     ·exact Jkm (X:=Jj X a) gD z db
     ·exact VA (X:=Jj X a) gD z w nn db
    refine Jzh (X:=Jj X a) (c:=v) hc ⟨nofun,nofun,nofun,nofun,nofun,nofun,nofun,nofun,λ c C b e hC=>?_⟩ (hm b) (G.gl h1).1 (hi _ h0) rfl (Jr h3) rfl rfl
    obtain⟨e1,e2,_⟩:=hg c C b e hC
    exact⟨e1,e2⟩
  ·exact Jf
 ·rename_i x q b
  split
  ·rename_i h
   simp only[Zl,beq_iff_eq] at h
   obtain⟨⟨⟨rfl,h0⟩,h1⟩,h3⟩:=h
   obtain⟨gx,xdb,xn⟩:=G.gl h1
   exact VB (X:=Jj X a) Jyu gx (hi _ h0) rfl (Qa (hm b) Qc (Jr h3)) xn xdb (Jr h3) rfl
  ·exact Jf
 ·rename_i o y ap b
  split
  ·rename_i h
   simp only[Zl,beq_iff_eq] at h
   obtain⟨⟨⟨rfl,h1⟩,h2⟩,h3⟩:=h
   exact i_bm (X:=Jj X a) ZbQ PySem.F.slot_list_index PySem.F.type_list_index (Jsz (X:=Jj X a) G.room.units) (hm o) (Qa (hm b) Qc (Jr h1)) (XE h2) (Jpl (es:=[b]) (by simp[h1]) (by simp)) (by simpa using h3) (Jr h1) rfl
  ·exact Jf
 ·exact Jf
theorem Jsg (G:Good ce k P S X)(a:Zj){w:Bool}(hw:w=Zd->Warm (Jj X a).A X.H₀){sc:ZaY}{elt:Expr}{gens:List Comprehension}{p:Pos}{m:Bool->Sc->Expr->E1}(hm:∀e,PEi ce (Jj X a) e (m w S e))
  (hc:Qe S.N (Qj sc) (JW sc) (jsOf S sc) S.fake sc=Zd->∀C s H fp e,PEi ce (Jj (cxC X (Qj sc++JW sc) sc C s H fp) a) e (m Zh (S.comp sc) e)):PEi ce (Jj X a) (.ListComp elt gens sc p) (Jv8 w S sc elt gens m):=by
 unfold Jv8
 split
 ·rename_i y yp iter c cp as
  split
  ·rename_i hs
   obtain⟨rfl,rfl,hi,ok⟩:=hs
   have Gc:=G.comp ok
   have ok':=ok
   rw[<- Jf7 G] at ok'
   cases hv:(S.comp sc).sto y with
   | none=>exact Jf
   | some i =>
    refine Jwh (X:=Jj X a) (hw rfl) (Jwj (hm iter)) (λ C s H fp=>?_) (λ C s H fp=>Jq1 (Jtz VM (hc ok C s H fp _))) (λ C s H fp=>hc ok C s H fp elt) ok' G.n rfl (Xd hi)
    obtain⟨h1,h2,h3⟩:=(Gc C s H fp).sto hv
    exact g_nm (X:=Jj (cxC X (Qj sc++JW sc) sc C s H fp) a) (Gc C s H fp).nodup h1 h2 h3
  ·exact Jf
 ·exact Jf
theorem Jsj (a:Zj):∀(n:Nat)(w:Bool)(S:Sc)(X:Cx),Good ce k P S X->XiOk X.K X.mg xi xf->(∀x,fr x=Zd->X.mg x=Zc)->(w=Zd->Warm (Jj X a).A X.H₀)->∀e,PEi ce (Jj X a) e (hv xi xf fr n w S e)
 | 0,_,_,_,_,_,_,_,_=>Jf
 | n+1,w,S,X,G,O,hi,hw,e=>by
  have ihe:=Jsj a n w S X G O hi hw
  have hu:(Jj X a).A.units+64<Zez:=G.room.units
  cases e with
  | Constant c j p =>
   cases c with
   | int i=>exact Jzg
   | bool b=>exact i_bl
   | none=>exact Jzn
   | str x=>exact Jzp
   | _=>exact Jf
  | Name x p =>
   show PEi ce (Jj X a) (.Name x p) (match S.vis x with|some i=>Ja i|none=>stE)
   cases hv:S.vis x with
   | some i =>
    obtain⟨h1,h2,h3,h4⟩:=G.vis hv
    exact Jwp (X:=Jj X a) i h1 h2 h3 h4
   | none=>exact Jf
  | BinOp b op c p=>exact Jza (Jz8 op) (ihe b) (ihe c)
  | Compare b ops cs p =>
   match ops,cs with
   | [o],[c] =>
    show PEi ce (Jj X a) _ (if Zbj o c then stE else Jc (cmpI o) (hv xi xf fr n w S b) (hv xi xf fr n w S c))
    split
    ·exact Jf
    ·rename_i hb
     exact Jzc (VH hu o) (ihe b) (ihe c) (Zba.mpr hb)
   | [],_=>exact Jf
   | [_],[]=>exact Jf
   | [_],_::_::_=>exact Jf
   | _::_::_,_=>exact Jf
  | Subscript b i p =>
   show PEi ce (Jj X a) _ (if Jh8 i then Jc Jh (hv xi xf fr n w S b) (hv xi xf fr n w S i) else stE)
   split
   ·rename_i h
    exact i_ix x_ix (ihe b) (ihe i) (Jl0 h)
   ·exact Jf
  | UnaryOp op b p=>exact i_un (o_un op) (ihe b)
  | BoolOp op vs p =>
   cases op with
   | And=>exact Jo2 ihe vs
   | Or=>exact Jvz ihe vs
  | Tuple es j p =>
   show PEi ce (Jj X a) _ (if es.all Jp then eTup (aAll (es.map (hv xi xf fr n w S))) else stE)
   split
   ·rename_i hs
    exact Jzq (Qu hs ihe)
   ·exact Jf
  | List es p =>
   show PEi ce (Jj X a) _ (if es.all Jp then eLst (aAll (es.map (hv xi xf fr n w S))) else stE)
   split
   ·rename_i hs
    exact Jzi (Qu hs ihe)
   ·exact Jf
  | Call f as ks p =>
   exact Jsf G O hi a ihe
  | ListComp elt gens sc p =>
   exact Jsg G a hw ihe λ ok C s H fp e=>Jsj a n Zh _ _ (G.comp ok C s H fp) O hi (λ z=>by cases z) e
  | _=>exact Jf
theorem Jy8 (G:Good ce k P S X)(O:XiOk X.K X.mg xi xf)(hi:∀x,fr x=Zd->X.mg x=Zc)(a:Zj){w:Bool}(hw:w=Zd->Warm (Jj X a).A X.H₀):∀n e,PTi ce (Jj X a) e (hT xi xf fr w S n e)
 | 0,_=>Jf
 | n+1,e=>by
  have ih:=Jy8 G O hi a hw n
  have ihe:=Jsj a n w S X G O hi hw
  have hu:(Jj X a).A.units+64<Zez:=G.room.units
  cases e with
  | UnaryOp op b p =>
   cases op with
   | Not=>exact J03 (ih b)
   | _=>exact Jf
  | BoolOp op vs p =>
   cases op with
   | And=>exact(Jqz ih vs).t
   | Or=>exact(Jxw ih vs).t
  | Compare b ops cs p =>
   match ops,cs with
   | [o],[c] =>
    show PTi ce (Jj X a) _ (if Zbj o c then stT else Ji asB (Jc (cmpI o) (hv xi xf fr n w S b) (hv xi xf fr n w S c)))
    split
    ·exact Jf
    ·rename_i hb
     exact J02 (VH hu o) (ihe b) (ihe c) (Zba.mpr hb)
   | [],_=>exact Jf
   | [_],[]=>exact Jf
   | [_],_::_::_=>exact Jf
   | _::_::_,_=>exact Jf
  | Call f as ks p=>exact Jtz VM (ihe _)
  | _=>exact Jf
theorem Jwc (G:Good ce k P S X)(O:XiOk X.K X.mg xi xf)(hi:∀x,fr x=Zd->X.mg x=Zc)(a:Zj){w:Bool}(hw:w=Zd->Warm (Jj X a).A X.H₀):∀n st,PS1 ce (Jj X a) st (hx xi xf fr w S n st)
 | 0,_=>JB
 | n+1,st=>by
  have ih:=Jwc G O hi a hw n
  have ihe:=Jsj a n w S X G O hi hw
  cases st with
  | Pass p=>exact Ju7
  | Return v p =>
   cases v with
   | none=>exact JB
   | some e=>exact J0v (ihe e)
  | If c x y p=>exact s_if (Jy8 G O hi a hw n c) (QE ih x) (QE ih y)
  | Assign tgs e p =>
   match tgs with
   | []=>exact JB
   | b::_::_=>cases b<;>exact JB
   | [tg] =>
    cases tg with
    | Name x q =>
     show PS1 ce (Jj X a) _ (if QC e then(match S.sto x with|some i=>Jk i (hv xi xf fr n w S e)|none=>stS) else stS)
     split
     ·rename_i h
      cases hv:S.sto x with
      | none=>exact JB
      | some i =>
       obtain⟨h1,h2,h3⟩:=G.sto hv
       exact Jxk (X:=Jj X a) G.nodup (ihe e) h1 h2 (Xq h) h3
     ·exact JB
    | _=>exact JB
  | _=>exact JB
theorem Jjx {a:Zj}{sl:Option Nat}{suite:List Zb2}:PSH ce X a sl suite stS:=λ _ _ _ _ _ _ _ _ _ _ _ _ _ _ _ _ _ K=>(show False from K).elim
theorem Jpi (G:Good ce k P S X)(ho:S.own=Zd)(n:Nat)(a:Zj)(sl:Option Nat)(suite:List Zb2):PSH ce X a sl suite (Jph P S n sl suite):=by
 unfold Jph
 split
 ·rename_i x px f pf e pe pc pos
  split
  ·rename_i j i g e1 e3
   split
   ·rename_i h
    simp only[Zl,decide_eq_true_eq] at h
    obtain⟨h1,h2⟩:=h
    obtain⟨fa,fd,qual,st,dV,N',p1,m,c1,c2,F,Sc',B,rfl,hb⟩:=G.pg.wr _ _ e3
    obtain⟨s1,s2,s3⟩:=G.sto e1
    obtain⟨v1,v2,v3,v4⟩:=G.vis h2
    obtain⟨g1,g2,g3⟩:=G.gl h1
    exact Jtf F Sc' hb (G.room3 ho) G.nodup s1 s2 s3 (Xq rfl) v1 (Jwp (X:=Jj X a) i v1 v2 v3 v4) g1 c1 c2 B g2
   ·exact Jjx
  ·exact Jjx
 ·exact(QE (Jwc G G.pg.xi G.pg.free a (λ z=>by cases z) n) _).h
theorem J10 (G:Good ce k P S X)(O:XiOk X.K X.mg xi xf){D:Str}{g:Str->Option Bool}{q:Pos}(hx:xi D=Za g)(h2:S.gl D=Zd)(a:Zj)(c:Str)(C:Zj)(b:Bool)(pj:PnT)(σ:L2.St)(H:Hp)(s:Zk)(Q:Bool->Zk->Prop)(E:QvT)(hb:g c=Za b)
  (hC:W.nsIn X.K Zm c=Za (Za (.ref C)))(I:Inv (Jj X a) pj σ H s)(ho:∃oe,s.heap.get? a=Za oe/\oe.cls=.ref C)(hq:Q b s):Zt (Z3 X.prog X.w) (Jj X a).A (ZaQ (.Name D q) X.env) (λ v s₁=>Zt (Z3 X.prog X.w) (Jj X a).A (excMatches (.ref a) v) Q E s₁) E s:=by
 obtain⟨v,hv,hg⟩:=O.1 D g hx
 obtain⟨gD,db,nn⟩:=G.gl h2
 have hc:ClsE (Jj X a) (.Name D q) v:=by
  rcases hv with z|⟨z,w⟩
  ·exact Jkm (X:=Jj X a) gD z db
  ·exact VA (X:=Jj X a) gD z w nn db
 refine hc pj σ H s _ E I ?_
 obtain⟨_,_,e3⟩:=hg c C b hb hC
 obtain⟨oe,h1,h2⟩:=ho
 obtain⟨hh,gg,d,tk,os⟩:=s
 have LT:W.Looks (Z3 X.prog X.w) hh (Ze7 (.ref a)) (.ref C):=h2▸(W.Looks.ld h1).andThen .now
 exact(W.exm_one (I.kIn:X.K.In hh) LT e3).at hq
theorem Jpe (G:Good ce k P S X)(ho:S.own=Zd){n:Nat}:∀{l:List Zbk}{ms:List HdI},hHds P S n l=Za ms->HdsOk ce X l ms
 | [],ms,e=>by cases e;exact .nil
 | h::r,ms,e=>by
  unfold hHds at e
  cases e1:hHd P S n h with
  | none=>rw[e1] at e;cases e
  | some q =>
   cases e2:hHds P S n r with
   | none=>rw[e1,e2] at e;cases e
   | some l =>
    rw[e1,e2] at e
    cases e
    unfold hHd at e1
    split at e1
    ·rename_i D q2 nm b suite pos
     split at e1
     ·rename_i hD
      cases e3:P.xi D with
      | none=>rw[e3] at e1;cases e1
      | some g =>
       cases e4:hSl S nm with
       | none=>rw[e3,e4] at e1;cases e1
       | some sl =>
        rw[e3,e4] at e1
        cases e1
        refine .cons ⟨λ a c C b pj σ H s Q E hb hC I ho hq=>J10 G G.pg.xi e3 hD a c C b pj σ H s Q E hb hC I ho hq,?_,λ a=>Jpi G ho n a sl _⟩ (Jpe G ho e2)
        unfold hSl at e4
        cases nm with
        | none=>cases e4;exact .inl ⟨rfl,rfl⟩
        | some x =>
         dsimp only at e4
         split at e4
         ·rename_i hl
          obtain⟨i,hi',rfl⟩:=Z5.mp e4
          refine .inr ⟨x,i,rfl,rfl,by rw[G.n];exact XS hi',?_⟩
          rw[G.kind]
          exact beq_iff_eq.mp hl
         ·cases e4
     ·cases e1
    ·cases e1
end
section
variable {ce:CeT}{k:Nat}{P:Pg}{n:Nat}{S:Sc}{X:Cx}
theorem Jne (G:Good ce k P S X){m:Expr->E1}(hm:∀e,PEi ce X e (m e)){x:Str}{e:Expr}{q q2 p:Pos}:PS1 ce X (.Raise (Za (.Call (.Name x q) [e] [] q2)) Zc p) (Jkt P S m x e):=by
 unfold Jkt
 split
 ·rename_i f hf
  split
  ·rename_i h
   simp only[Zl,decide_eq_true_eq] at h
   obtain⟨⟨h1,h2⟩,h3⟩:=h
   split
   ·rename_i d hd
    obtain⟨C,fa,fd,ps,c1,c2,c3,c4,c5,D⟩:=G.pg.xo x f hf
    obtain⟨gx,db,_⟩:=G.gl h1
    obtain⟨ds,hb,hl,qd⟩:=Jh0 D hd
    have hz:ps.length<=sizeLine:=by
     have:=D.len
     rw[ZaU]
     omega
    refine Jtk G.calm (Jwl c3 c4 D.ok c2 G.room gx c1 hb qd (Qu (es:=[e]) (by simp[h2]) hm) (λ σ h xs h' z=>?_) hz db (Jr h2) rfl) λ c C' hc hC' h hK=>?_
    ·have:=XC _ σ h xs h' z
     rw[Zp] at this
     simp at this
     omega
    ·have e1:c=x:=beq_iff_eq.mp hc
     subst e1
     rw[c2] at hC'
     cases hC'
     exact c5 h hK
   ·exact JB
  ·exact JB
 ·exact JB
theorem Jpg (G:Good ce k P S X){m:Expr->E1}(hm:∀e,PEi ce X e (m e)){exc cause:Option Expr}{p:Pos}:PS1 ce X (.Raise exc cause p) (Jpf P S m exc cause):=by
 unfold Jpf
 split
 ·rename_i x q e q2
  split
  ·rename_i h
   simp only[Zl] at h
   obtain⟨⟨h1,h2⟩,h3⟩:=h
   obtain⟨C,c1,c2,c3⟩:=G.pg.rz x h2
   obtain⟨gx,db,_⟩:=G.gl h1
   exact Jxj G.calm gx c1 c2 c3 (Qa (hm e) Qc (Jr h3)) db (Jr h3) rfl
  ·exact Jne G hm
 ·exact JB
theorem Jv9 (G:Good ce k P S X){m:Zb2->S1}(hm:∀s,PS1 ce X s (m s)){body:List Zb2}{hs:List Zbk}{o f:List Zb2}{p:Pos}:PS1 ce X (.Try body hs o f p) (hTry P S n m body hs o f):=by
 unfold hTry
 split
 ·split
  ·rename_i h
   obtain⟨hk,hf⟩:=G.top h
   split
   ·rename_i ms e
    exact J2v G.nodup hk hf (QE hm body) (Jpe G h e)
   ·exact JB
  ·exact JB
 ·exact JB
theorem Jvl {tg:Expr}{env:Env}(h:Jp tg=Zd):(ZaL [tg] env).map (·.2)=[Zer tg env]:=by
 cases tg<;>first|rfl|cases h
theorem Jtr (G:Good ce k P S X)(i:Nat){e:Expr}{x:Str}{p q:Pos}(h:isLC e=Zd)(h1:X.N[i]?=Za x)(h2:L2.Loc X.env.scope x)(h3:X.fn x=Zd∨X.env.scope.names.lookup x=Za .local) :
  PS1 ce X (.Assign [.Name x q] e p) (Jk i (ev P n S e)):=by
 cases e with
 | ListComp elt gens sc cp =>
  cases hb:(X.env.blockKind==.function&&X.env.kindOf x==Za .local&&q.line==cp.line&&!(sc.names.any λ (n,k)=>n==x&&(k==.local||k==.cell))) with
  | false =>
   refine Jxk G.nodup ((Jil ce k P n).e S X _ G) h1 h2 ?_ h3
   show(pure (X.env.blockKind==.function&&X.env.kindOf x==Za .local&&q.line==cp.line&&!(sc.names.any λ (n,k)=>n==x&&(k==.local||k==.cell))):Sem Bool)=pure Zh
   rw[hb]
  | true =>
   have hsw:ZcD (.ListComp elt gens sc cp) (Za (.Name x q)) p.line X.env=pure Zd:=by
    show(pure (X.env.blockKind==.function&&X.env.kindOf x==Za .local&&q.line==cp.line&&!(sc.names.any λ (n,k)=>n==x&&(k==.local||k==.cell))):Sem Bool)=pure Zd
    rw[hb]
   have dead:∀m:E1,(∀σ h,m σ h=.stuck)->PS1 ce X (.Assign [.Name x q] (.ListComp elt gens sc cp) p) (Jk i m):=λ m hm=>by
    intro pj s σ H ι σi h Q E N K
    unfold Jk at K
    rw[hm] at K
    exact Zf K
   cases n with
   | zero=>exact dead _ λ _ _=>rfl
   | succ n =>
    have ih:=Jil ce k P n
    match gens,hsw with
    | [⟨tg,iter,ifs,as⟩],hsw =>
     show PS1 ce X _ (Jk i (if as=0/\VG iter=Zd/\Qe S.N (Qj sc) (JW sc) (jsOf S sc) S.fake sc=Zd then
      Jow ifs (evT P n (S.comp sc)) (λ mt=>Ju (evI P n S tg iter) (Qj sc).length (jsOf S sc) (tgt P n (S.comp sc) tg) mt (ev P n (S.comp sc) elt)) else stE))
     split
     ·rename_i hs
      obtain⟨rfl,hi,ok⟩:=hs
      have Gc:=G.comp ok
      have ok':=ok
      rw[<- Jf7 G] at ok'
      match ifs,hsw with
      | [],hsw=>exact Ju6 G.calm (ih.i S X tg iter G) (λ C s H fp=>ih.g _ _ tg (Gc C s H fp)) (λ C s H fp=>Jvc) (λ C s H fp=>ih.e _ _ elt (Gc C s H fp)) ok' G.n rfl (Xd hi) G.nodup h1 h2 h3 hsw
      | [c],hsw=>exact Ju6 G.calm (ih.i S X tg iter G) (λ C s H fp=>ih.g _ _ tg (Gc C s H fp)) (λ C s H fp=>Jq1 (ih.t _ _ c (Gc C s H fp))) (λ C s H fp=>ih.e _ _ elt (Gc C s H fp)) ok' G.n rfl (Xd hi) G.nodup h1 h2 h3 hsw
      | _::_::_,_=>exact dead _ λ _ _=>rfl
     ·exact dead _ λ _ _=>rfl
    | [],_=>exact dead _ λ _ _=>rfl
    | ⟨_,_,_,_⟩::_::_,_=>exact dead _ λ _ _=>rfl
 | _=>cases h
theorem Jmc (ce:CeT)(k:Nat)(P:Pg):∀(n:Nat)(S:Sc)(X:Cx)(st:Zb2),Good ce k P S X->PS1 ce X st (ex P n S st)
 | 0,_,_,_,_=>JB
 | n+1,S,X,st,G=>by
  have ih:=λ st=>Jmc ce k P n S X st G
  have E:=Jil ce k P n
  have ihe:=λ e=>E.e S X e G
  cases st with
  | Pass p=>exact Ju7
  | Break p=>exact Jxi
  | Continue p=>exact J0s
  | Expr e p =>
   show PS1 ce X _ (if QC e then JO (ev P n S e) else stS)
   split
   ·rename_i h
    exact J0t (ihe e) (Xq h)
   ·exact JB
  | Return v p =>
   cases v with
   | none=>exact J0w
   | some e=>exact J0v (ihe e)
  | If c a b p=>exact s_if (E.t S X c G) (QE ih a) (QE ih b)
  | Raise exc cause p=>exact Jpg G ihe
  | Try body hs o f p=>exact Jv9 G ih
  | While c a o p =>
   cases o with
   | nil =>
    show PS1 ce X _ (Jky S.own (evT P n S c) (sAll (a.map (ex P n S))))
    cases h:S.own with
    | true =>
     obtain⟨hk,hf⟩:=G.top h
     exact Jxl hk hf (E.t S X c G) (QE ih a)
    | false=>exact JB
   | cons _ _=>exact JB
  | For tg it a o p =>
   cases o with
   | nil =>
    show PS1 ce X _ (if VG it&&S.own then sFor (evI P n S tg it) (tgt P n S tg) (sAll (a.map (ex P n S))) else stS)
    split
    ·rename_i h
     rw[Zl] at h
     obtain⟨hk,hf⟩:=G.top h.2
     exact J2u G.calm hk hf (E.i S X tg it G) (E.g S X tg G) (QE ih a) (Xd h.1)
    ·exact JB
   | cons _ _=>exact JB
  | Assign tgs e p =>
   match tgs with
   | []=>exact JB
   | a::_::_=>cases a<;>exact JB
   | [tg] =>
    have gen:PS1 ce X (.Assign [tg] e p) (if QC e&&((Jss tg&&Jw2 e)||Jsr tg) then sAsg (ev P n S e) (tgt P n S tg) else stS):=by
     split
     ·rename_i h
      simp only[Zl,Za4] at h
      have hst:Jp tg=Zd:=by
       rcases h.2 with q|q
       ·cases tg<;>first|rfl|(simp[Jss] at q)
       ·cases tg<;>first|rfl|(simp[Jsr] at q)
      refine J2s (ihe e) (E.g S X tg G) (Xq h.1) ?_ (Jvl hst)
      rcases h.2 with q|q
      ·cases tg with
       | Tuple es j pp =>
        have q2:=q.2
        cases e<;>first|rfl|(simp[Jw2] at q2)
       | _=>simp[Jss] at q
      ·cases tg with
       | Subscript=>cases e<;>rfl
       | _=>simp[Jsr] at q
     ·exact JB
    cases tg with
    | Name x q =>
     show PS1 ce X _ (if QC e||isLC e then(match S.sto x with|some i=>Jk i (ev P n S e)|none=>stS) else stS)
     split
     ·rename_i h
      cases hv:S.sto x with
      | none=>exact JB
      | some i =>
       obtain⟨h1,h2,h3⟩:=G.sto hv
       rcases Za4 _ _▸h with h|h
       ·exact Jxk G.nodup (ihe e) h1 h2 (Xq h) h3
       ·exact Jtr G i h h1 h2 h3
     ·exact JB
    | Attribute o f q =>
     show PS1 ce X _ (if QC e||isLC e then Jxg P f (ev P n S o) (ev P n S e) else stS)
     split
     ·rename_i h
      have hw:ZcD e (Za (.Attribute o f q)) p.line X.env=pure Zh:=by
       rcases Za4 _ _▸h with h|h
       ·exact Xq h
       ·cases e<;>first|rfl|cases h
      unfold Jxg
      split
      ·rename_i hf
       exact J2t (ihe o) (ihe e) (G.pg.fld f hf) hw
      ·exact J0u (ihe o) (ihe e) (λ c C hc hC=>(G.pg.xi.2 f c C hc hC).1) hw
     ·exact JB
    | _=>exact gen
  | _=>exact JB
end
structure D4 where
 st:Zb2
 qual:Str
 ps:List Str
 N:List Str
 dvs:List IV
def D4.sc (d:D4):Sc:=⟨d.N,(Jy d.st).names,Zd,d.qual⟩
structure Tab where
 fns:List (Str×D4)
 clss:List (Str×D4)
 meths:List (Str×List (Str×D4))
 cons:List (Str×IV)
 isas:List (Str×List Str)
 flds:List Str
 frees:List Str
 tabs:List Str:=[]
 razs:List Str:=[]
 xis:List (Str×List (Str×Bool)):=[]
 bass:List Str:=[]
 wrs:List (Str×D4):=[]
 nes:List Str:=[]
 xms:List (Str×D4):=[]
 xfs:List (Str×List Str):=[]
 xbs:List Str:=[]
def memS (x:Str):List Str->Bool
 | []=>Zh
 | y::r=>y==x||memS x r
def J9 {α:Type}(x:Str):List (Str×α)->Option α
 | []=>Zc
 | (y,a)::r=>if y==x then Za a else J9 x r
def xfOf (T:Tab)(f c:Str):Bool:=match J9 f T.xfs with|some l=>memS c l|none=>Zh
def runW (T:Tab)(d:D4):List IV->IH->Res IV:=fnI d.N.length (sAll ((JG d.st).map (hx (λ D=>(J9 D T.xis).map λ l c=>J9 c l) (xfOf T) (λ x=>memS x T.frees) Zd { d.sc with own:=Zh } 40)))
def mkPg (T:Tab)(r:D4->List IV->IH->Res IV):Pg where
 fn:=λ x=>(J9 x T.fns).map λ d=>⟨d.ps.length,d.dvs,r d⟩
 cls:=λ x=>(J9 x T.clss).map λ d=>⟨d.ps.length,d.dvs,r d⟩
 meth:=λ c m=>((J9 c T.meths).bind (J9 m)).map λ d=>⟨d.ps.length,d.dvs,r d⟩
 con:=λ x=>J9 x T.cons
 isa:=λ x=>(J9 x T.isas).map λ l c=>memS c l
 fld:=λ x=>memS x T.flds
 free:=λ x=>memS x T.frees
 tabs:=λ q=>ixOf q T.tabs
 rz:=λ x=>memS x T.razs
 xi:=λ D=>(J9 D T.xis).map λ l c=>J9 c l
 bas:=λ x=>memS x T.bass
 wr:=λ x=>(J9 x T.wrs).map (runW T)
 ne:=λ x=>memS x T.nes
 xo:=λ x=>(J9 x T.xms).map λ d=>⟨d.ps.length,d.dvs,r d⟩
 xf:=xfOf T
 xb:=λ x=>memS x T.xbs
def run (T:Tab):Nat->D4->List IV->IH->Res IV
 | 0,_=>λ _ _=>.stuck
 | k+1,d=>fnI d.N.length (sAll ((JG d.st).map (ex (mkPg T (run T k)) 40 d.sc)))
theorem JX {α:Type}{x:Str}{a:α}:∀{l:List (Str×α)},J9 x l=Za a->(x,a)∈l
 | [],h=>by cases h
 | (y,b)::r,h=>by
  unfold J9 at h
  split at h
  ·rename_i e
   cases h
   rw[beq_iff_eq.mp e]
   exact Zs
  ·exact Zn _ (JX h)
theorem Vl {x:Str}:∀{l:List Str},memS x l=Zd->x∈l
 | [],h=>by cases h
 | y::r,h=>by
  unfold memS at h
  rcases Za4 _ _▸h with e|e
  ·rw[beq_iff_eq.mp e]
   exact Zs
  ·exact Zn _ (Vl e)
structure DefOk (K:W.Frag)(x:Str)(d:D4)(fa:Zj)(fd:Zap):Prop where
 fun_:∃dV,FunD K x d.qual d.st fa fd dV
 sc:FnScope d.N d.ps (Jy d.st)
 dv:∀j,j<=d.dvs.length->∃ds,JI K fd d.ps ds/\ds.length=d.dvs.length-j/\∃vs,Vals vs ds/\∀ι H,RVs K ι H (d.dvs.drop j) vs
structure TabOk (ce:CeT)(T:Tab)(K:W.Frag)(mg:Str->Option Ze):Prop where
 fn:∀x d,(x,d)∈T.fns->∃fa fd,mg x=Za (.ref fa)/\DefOk K x d fa fd
 cls:∀x d,(x,d)∈T.clss->∃C fa fd,mg x=Za (.ref C)/\ce x=Za C/\Mk K C fa/\DefOk K "__init__" d fa fd
 meth:∀c l m d,(c,l)∈T.meths->(m,d)∈l->∃C fa fd,ce c=Za C/\Cls K C/\Meth K C m fa/\DefOk K m d fa fd
 con:∀x v,(x,v)∈T.cons->∃u y,mg x=Za u/\RelV y u/\∀ι H,RV K ι H v y
 isa:∀D l,(D,l)∈T.isas->∃c,mg D=Za c/\IsOk ce K c λ t=>match t with|.ins c=>Za (memS c l)|.exc _=>Zc|_=>Za Zh
 fld:∀f,f∈T.flds->Jrt ce K f
 free:∀x,x∈T.frees->mg x=Zc
 rz:∀x,x∈T.razs->∃C,mg x=Za (.ref C)/\W.nsIn K Zm x=Za (Za (.ref C))/\XCls K C
 xi:∀D l,(D,l)∈T.xis->∃v,(mg D=Za v∨(mg D=Zc/\Zbv D=Za v))/\∀c b,(c,b)∈l->∃C,W.nsIn K Zm c=Za (Za (.ref C))/\ExI K C/\W.kitOne K (.ref C) v=Za b/\W.exmOne K (.ref C) v=Za b
 bas:∀x,x∈T.bass->∃C,mg x=Za (.ref C)/\BasK K C
 wr:∀x d,(x,d)∈T.wrs->∃fa fd p,mg x=Za (.ref fa)/\DefOk K x d fa fd/\d.ps=[p]/\d.dvs=[]
 ne:∀c,c∈T.nes->∃C,ce c=Za C/\neIn K C=Zd/\ClsI K C/\W.kitOne K (.ref C) (.type "list")=Za Zh
 xo:∀x d,(x,d)∈T.xms->∃C fa fd,mg x=Za (.ref C)/\W.nsIn K Zm x=Za (Za (.ref C))/\JV K C fa=Zd/\W.keepIn K (.ref C)=Zd/\(∀h:ZZ,K.In h->ExC h C)/\DefOk K "__init__" d fa fd
 xf:∀f l c,(f,l)∈T.xfs->c∈l->∃C,W.nsIn K Zm c=Za (Za (.ref C))/\StoX K C f/\ExI K C/\W.findIn K (.ref C) f=Za Zc
 xb:∀x,x∈T.xbs->∃C,mg x=Za (.ref C)/\BasX K C
section
variable {ce:CeT}{T:Tab}{prog:ZA}{w:ZM}{K:W.Frag}{mg:Str->Option Ze}{base:ZZ}
theorem Jm5 {k:Nat}{fa:Zj}{fd:Zap}{ps:List Str}:FnOk prog w K mg base (CXI prog w) k fa fd ps (spI ce K ps λ _ _=>.stuck) :=
 ⟨λ _ _ _ _ h=>h.1,λ _ _ _ _ _ _ _ _ _ _ _ _ _ h=>by obtain⟨_,_,_,_,_,_,z⟩:=h;exact z.elim⟩
def P0:Pg:=⟨λ _=>Zc,λ _=>Zc,λ _ _=>Zc,λ _=>Zc,λ _=>Zc,λ _=>Zh,λ _=>Zh,λ _=>Zc,λ _=>Zh,λ _=>Zh,λ _=>Zc,λ _=>Zc,λ _=>Zh,λ _=>Zc,λ _ _=>Zh,λ _=>Zh⟩
theorem pg0 {k:Nat}:PgOk ce k P0 prog w K mg base:=⟨nofun,nofun,nofun,nofun,nofun,nofun,nofun,nofun,nofun,⟨nofun,nofun⟩,nofun,nofun,nofun,nofun,nofun⟩
theorem J1j (O:TabOk ce T K mg):XiOk K mg (λ D=>(J9 D T.xis).map λ l c=>J9 c l) (xfOf T):=by
 refine⟨λ D g h=>?_,λ f c C h hC=>?_⟩
 rotate_left
 ·have h':(match J9 f T.xfs with|some l=>memS c l|none=>Zh)=Zd:=h
  cases hl:J9 f T.xfs with
  | none=>rw[hl] at h';cases h'
  | some l =>
   rw[hl] at h'
   obtain⟨C',q,r⟩:=O.xf f l c (JX hl) (Vl h')
   rw[hC] at q
   cases q
   exact r
 obtain⟨l,hl,rfl⟩:=Z5.mp h
 obtain⟨v,hv,hc⟩:=O.xi D l (JX hl)
 refine⟨v,hv,λ c C b e hC=>?_⟩
 obtain⟨C',h1,h2⟩:=hc c b (JX e)
 rw[hC] at h1
 cases h1
 exact h2
theorem J20 (O:TabOk ce T K mg){k:Nat}{x:Str}{r:List IV->IH->Res IV}(h:(J9 x T.wrs).map (runW T)=Za r):∃fa fd qual st dV N' p1 m,mg x=Za (.ref fa)/\W.keepIn K (.ref fa)=Zd/\FunD K x qual st fa fd dV/\FnScope N' [p1] (Jy st)/\JI K fd [p1] []/\r=fnI N'.length m /\
  ∀(cdv:Ze)(A:ZG)(outer:List Env)(s:Zk)(H:Hp)(E:XK)(a:Zj),W.codeIn K cdv qual=Zd->Room (k+2) (A.deeper (ZcW qual (Jy st) s.heap.objs.size fa cdv))->Warm (A.mark (Za (.ref a))) H->PS2 ce (Jj (cxOf (CXI prog w) prog w K mg base N' qual (Jy st) fa cdv A outer s H E).nox a) (JG st) m:=by
 obtain⟨d,hd,rfl⟩:=Z5.mp h
 obtain⟨fa,fd,p,hm,ok,hp,hdv⟩:=O.wr x d (JX hd)
 obtain⟨dV,F⟩:=ok.fun_
 refine⟨fa,fd,d.qual,d.st,dV,d.N,p,_,hm,F.kp,F,hp▸ok.sc,?_,rfl,λ cdv A outer s H E a hcd hr hw=>?_⟩
 ·obtain⟨ds,b,l,_⟩:=ok.dv 0 (Zaa _)
  rw[hdv] at l
  cases ZaN l
  rw[<- hp]
  exact b
 ·refine QE (Jwc (k:=0) (P:=P0) ?_ (J1j O) (λ x h=>O.free x (Vl h)) a (λ _=>?_) 40) _
  ·exact⟨rfl,rfl,ok.sc.nd,ok.sc.kind,rfl,hr.mono (by omega),λ z=>absurd z Zq,pg0,λ z=>absurd z Zq,λ z=>absurd z Zq,λ z=>absurd z Zq⟩
  ·obtain⟨b,oe,u,vs,e1,e2,e3,e4⟩:=hw
   exact⟨b,oe,u,vs,e1,e2,e3,e4⟩
theorem J2o (O:TabOk ce T K mg)(B:T.tabs≠[]->Qs mg base)(k:Nat)(hD:∀x d fa fd,DefOk K x d fa fd->FnD ce prog w K mg base (4*k) ⟨d.ps.length,d.dvs,run T k d⟩ fa fd d.ps):PgOk ce (4*k) (mkPg T (run T k)) prog w K mg base:=by
 refine⟨λ x f h=>?_,λ x f h=>?_,λ c m f h=>?_,λ x v h=>?_,λ D g h=>?_,λ f h=>?_,λ x h=>?_,λ q j h=>B λ e=>?_,λ x h=>O.rz x (Vl h),J1j O,λ x h=>O.bas x (Vl h),λ x r h=>J20 O h,λ c h=>O.ne c (Vl h),λ x f h=>?_,λ x h=>O.xb x (Vl h)⟩
 ·obtain⟨d,hd,rfl⟩:=Z5.mp h
  obtain⟨fa,fd,hm,ok⟩:=O.fn x d (JX hd)
  obtain⟨dV,F⟩:=ok.fun_
  exact⟨fa,fd,d.ps,hm,F.kp,hD x d fa fd ok⟩
 ·obtain⟨d,hd,rfl⟩:=Z5.mp h
  obtain⟨C,fa,fd,hm,hC,M,ok⟩:=O.cls x d (JX hd)
  exact⟨C,fa,fd,d.ps,hm,hC,M,hD _ d fa fd ok⟩
 ·obtain⟨d,hd,rfl⟩:=Z5.mp h
  obtain⟨l,hl,hd⟩:=ZdT.mp hd
  obtain⟨C,fa,fd,hC,cl,me,ok⟩:=O.meth c l m d (JX hl) (JX hd)
  exact⟨C,fa,fd,d.ps,hC,cl,me,hD m d fa fd ok⟩
 ·exact O.con x v (JX h)
 ·obtain⟨l,hl,rfl⟩:=Z5.mp h
  exact O.isa D l (JX hl)
 ·exact O.fld f (Vl h)
 ·exact O.free x (Vl h)
 ·have h':ixOf q T.tabs=Za j:=h
  rw[e] at h'
  cases h'
 ·obtain⟨d,hd,rfl⟩:=Z5.mp h
  obtain⟨C,fa,fd,h1,h2,h3,h4,h5,ok⟩:=O.xo x d (JX hd)
  exact⟨C,fa,fd,d.ps,h1,h2,h3,h4,h5,hD _ d fa fd ok⟩
theorem Jun (O:TabOk ce T K mg)(B:T.tabs≠[]->Qs mg base):∀k x d fa fd,DefOk K x d fa fd->FnD ce prog w K mg base (4*k) ⟨d.ps.length,d.dvs,run T k d⟩ fa fd d.ps
 | 0,x,d,fa,fd,ok=>⟨rfl,Jm5,ok.dv⟩
 | k+1,x,d,fa,fd,ok=>by
  refine⟨rfl,?_,ok.dv⟩
  obtain⟨dV,F⟩:=ok.fun_
  show FnOk prog w K mg base (CXI prog w) (4*k+3+1) fa fd d.ps (spI ce K d.ps (run T (k+1) d))
  refine F.fn (m:=sAll ((JG d.st).map (ex (mkPg T (run T k)) 40 d.sc))) ok.sc λ cdv A outer s H E hcd hr=>?_
  refine QE (λ st=>Jmc ce (4*k) (mkPg T (run T k)) 40 d.sc _ st ?_) _
  exact⟨rfl,rfl,ok.sc.nd,ok.sc.kind,rfl,hr.mono (by omega),λ _ _=>rfl,J2o O B k (Jun O B k),λ _=>⟨hcd,rfl⟩,λ _=>hr,λ _=>⟨rfl,rfl⟩⟩
end
inductive All {α:Type}(p:α->Prop):List α->Prop
 | nil:All p []
 | cons {a:α}{l:List α}:p a->All p l->All p (a::l)
theorem All.mem {α:Type}{p:α->Prop}:∀{l:List α}{a:α},All p l->a∈l->p a
 | _,_,.nil,h=>by cases h
 | _,_,.cons h r,m=>by
  rcases ZH.mp m with rfl|m
  ·exact h
  ·exact r.mem m
def Juh (l:List Str):Ty->Option Bool:=λ t=>match t with|.ins c=>Za (memS c l)|.exc _=>Zc|_=>Za Zh
section
variable {T:Tab}{K:W.Frag}{mg:Str->Option Ze}
def ceOf (ces:List (Str×Zj)):CeT:=λ c=>J9 c ces
def kits (K:W.Frag)(v:Ze)(l:List (Zj×Bool)):Bool:=l.all λ p=>W.kitOne K (.ref p.1) v==Za p.2&&W.exmOne K (.ref p.1) v==Za p.2
theorem V7 {v:Ze}:∀{cs:List (Str×Zj)}{bs:List Bool},All (λ p:Str×Zj=>W.nsIn K Zm p.1=Za (Za (.ref p.2))/\ExI K p.2) cs->cs.length=bs.length->kits K v ((cs.map (·.2)).zip bs)=Zd ->
  All (λ p:Str×Bool=>∃C,W.nsIn K Zm p.1=Za (Za (.ref C))/\ExI K C/\W.kitOne K (.ref C) v=Za p.2/\W.exmOne K (.ref C) v=Za p.2) ((cs.map (·.1)).zip bs)
 | [],[],_,_,_=>.nil
 | (_,C)::_,_::_,.cons h r,e,q=>by
  simp only[kits,Zu,List.zip_cons_cons,Zaf,Zl,beq_iff_eq] at q
  exact .cons ⟨C,h.1,h.2,q.1.1,q.1.2⟩ (V7 r (by simpa using e) (by simpa only[kits] using q.2))
 | [],_::_,_,e,_=>by cases e
 | _::_,[],_,e,_=>by cases e
theorem J04 (ces:List (Str×Zj))(fn:All (λ p:Str×D4=>∃fa fd,mg p.1=Za (.ref fa)/\DefOk K p.1 p.2 fa fd) T.fns)
  (cls:All (λ p:Str×D4=>∃C fa fd,mg p.1=Za (.ref C)/\ceOf ces p.1=Za C/\Mk K C fa/\DefOk K "__init__" p.2 fa fd) T.clss)
  (meth:All (λ q:Str×List (Str×D4)=>∃C,ceOf ces q.1=Za C/\All (λ p:Str×D4=>∃fa fd,Meth K C p.1 fa/\DefOk K p.1 p.2 fa fd) q.2) T.meths)
  (con:All (λ p:Str×IV=>∃u y,mg p.1=Za u/\RelV y u/\∀ι H,RV K ι H p.2 y) T.cons)
  (cl:All (λ p:Str×Zj=>ClsI K p.2/\All (λ f=>Vc K p.2 f) T.flds) ces)
  (isa:All (λ q:Str×List Str=>∃D,mg q.1=Za (.ref D)/\W.kitOne K (.type "NoneType") (.ref D)=Za Zh/\W.kitOne K (.type "bool") (.ref D)=Za Zh/\W.kitOne K (.type "int") (.ref D)=Za Zh/\W.kitOne K (.type "str") (.ref D)=Za Zh /\
   W.kitOne K (.type "list") (.ref D)=Za Zh/\W.kitOne K (.type "tuple") (.ref D)=Za Zh/\W.kitOne K (.type "dict") (.ref D)=Za Zh/\All (λ p:Str×Zj=>W.kitOne K (.ref p.2) (.ref D)=Za (memS p.1 q.2)) ces) T.isas)
  (free:All (λ x=>mg x=Zc) T.frees)
  (raz:All (λ x=>∃C,mg x=Za (.ref C)/\W.nsIn K Zm x=Za (Za (.ref C))/\XCls K C) T.razs:=by exact .nil)
  (xis:All (λ q:Str×List (Str×Bool)=>∃v,(mg q.1=Za v∨(mg q.1=Zc/\Zbv q.1=Za v))/\All (λ p:Str×Bool=>∃C,W.nsIn K Zm p.1=Za (Za (.ref C))/\ExI K C/\W.kitOne K (.ref C) v=Za p.2/\W.exmOne K (.ref C) v=Za p.2) q.2) T.xis:=by exact .nil)
  (bas:All (λ x=>∃C,mg x=Za (.ref C)/\BasK K C) T.bass:=by exact .nil)
  (wr:All (λ q:Str×D4=>(∃fa fd,mg q.1=Za (.ref fa)/\DefOk K q.1 q.2 fa fd)/\∃p,q.2.ps=[p]/\q.2.dvs=[]) T.wrs:=by exact .nil)
  (nes:All (λ c=>∃C,ceOf ces c=Za C/\neIn K C=Zd/\W.kitOne K (.ref C) (.type "list")=Za Zh) T.nes:=by exact .nil)
  (xms:All (λ p:Str×D4=>∃C fa fd,mg p.1=Za (.ref C)/\W.nsIn K Zm p.1=Za (Za (.ref C))/\JV K C fa=Zd/\W.keepIn K (.ref C)=Zd/\(∀h:ZZ,K.In h->ExC h C)/\DefOk K "__init__" p.2 fa fd) T.xms:=by exact .nil)
  (xfs:All (λ q:Str×List Str=>All (λ c=>∃C,W.nsIn K Zm c=Za (Za (.ref C))/\StoX K C q.1/\ExI K C/\W.findIn K (.ref C) q.1=Za Zc) q.2) T.xfs:=by exact .nil)
  (xbs:All (λ x=>∃C,mg x=Za (.ref C)/\BasX K C) T.xbs:=by exact .nil):TabOk (ceOf ces) T K mg:=by
 refine⟨λ x d h=>fn.mem h,λ x d h=>cls.mem h,λ c l m d hc hm=>?_,λ x v h=>con.mem h,λ D l h=>?_,λ f hf=>?_,λ x h=>free.mem h,λ x h=>raz.mem h,λ D l h=>?_,λ x h=>bas.mem h,λ x d h=>let ⟨⟨fa,fd,a,b⟩,p,c,e⟩:=wr.mem h;⟨fa,fd,p,a,b,c,e⟩,λ c h=>let ⟨C,p,q,r⟩:=nes.mem h;⟨C,p,q,(cl.mem (JX p)).1,r⟩,λ x d h=>xms.mem h,λ f l c h hc=>(xfs.mem h).mem hc,λ x h=>xbs.mem h⟩
 ·obtain⟨C,hC,hl⟩:=meth.mem hc
  obtain⟨fa,fd,me,ok⟩:=hl.mem hm
  exact⟨C,fa,fd,hC,(cl.mem (JX hC)).1.cl,me,ok⟩
 ·obtain⟨C,hC,h1,h2,h3,h4,h5,h6,h7,h8⟩:=isa.mem h
  refine⟨_,hC,⟨λ b e=>?_,λ b e=>?_,λ b e=>?_,λ b e=>?_,λ b e=>?_,λ b e=>?_,λ b e=>?_,λ k C' b e hk=>?_,(λ k C' b e=>by cases e)⟩⟩
  ·cases e;exact h1
  ·cases e;exact h2
  ·cases e;exact h3
  ·cases e;exact h4
  ·cases e;exact h5
  ·cases e;exact h6
  ·cases e;exact h7
  ·cases e
   exact⟨(cl.mem (JX hk)).1,h8.mem (JX hk)⟩
 ·intro c C e
  obtain⟨h1,h2⟩:=cl.mem (JX e)
  exact⟨h1.cl,h2.mem hf⟩
 ·obtain⟨v,hv,hl⟩:=xis.mem h
  exact⟨v,hv,λ c b hc=>hl.mem hc⟩
theorem len1 {α:Type}{P:List α->Prop}(F0:∀a,P [a]):∀us:List α,us.length=1->P us
 | [a],_=>F0 a
theorem len2 {α:Type}{P:List α->Prop}(F0:∀a b,P [a,b]):∀us:List α,us.length=2->P us
 | [a,b],_=>F0 a b
theorem len3 {α:Type}{P:List α->Prop}(F0:∀a b c,P [a,b,c]):∀us:List α,us.length=3->P us
 | [a,b,c],_=>F0 a b c
theorem len4 {α:Type}{P:List α->Prop}(F0:∀a b c d,P [a,b,c,d]):∀us:List α,us.length=4->P us
 | [a,b,c,d],_=>F0 a b c d
theorem len5 {α:Type}{P:List α->Prop}(F0:∀a b c d e,P [a,b,c,d,e]):∀us:List α,us.length=5->P us
 | [a,b,c,d,e],_=>F0 a b c d e
theorem len6 {α:Type}{P:List α->Prop}(F0:∀a b c d e f,P [a,b,c,d,e,f]):∀us:List α,us.length=6->P us
 | [a,b,c,d,e,f],_=>F0 a b c d e f
theorem len7 {α:Type}{P:List α->Prop}(F0:∀a b c d e f g,P [a,b,c,d,e,f,g]):∀us:List α,us.length=7->P us
 | [a,b,c,d,e,f,g],_=>F0 a b c d e f g
theorem J2y:∀j:Nat,j<=3->j=0∨j=1∨j=2∨j=3:=by omega
theorem Jum {x:Str}{d:D4}{fa:Zj}{oc kV doc pm cdv ct:Ze}{od an:Option Zj}{osl:Array (Option Ze)}(lk:K.lookup fa=Za ⟨oc,od,.func (W.fnOf x d.qual (Qi d.st) (JG d.st) (Jy d.st) .none kV doc pm an cdv ct),osl⟩)
  (hc:W.codeIn K cdv d.qual=Zd)(hk:W.keepIn K (.ref fa)=Zd)(sc:FnScope d.N d.ps (Jy d.st))(hd:d.dvs=[])
  (hb:∀us:List Ze,us.length=d.ps.length->ZdK (W.fnOf x d.qual (Qi d.st) (JG d.st) (Jy d.st) .none kV doc pm an cdv ct) ⟨us,[]⟩=pure (d.ps.zip us)) :
  DefOk K x d fa (W.fnOf x d.qual (Qi d.st) (JG d.st) (Jy d.st) .none kV doc pm an cdv ct) :=
 ⟨⟨_,⟨oc,od,kV,doc,pm,an,cdv,ct,osl,rfl,lk,hc⟩,hk⟩,sc,λ j hj=>⟨[],.all hb,by rw[hd];simp,[],.nil,by rw[hd];intro _ _;cases j<;>exact rfl⟩⟩
def scOk (N P:List Str)(sc:ZaY):Bool :=
 sc.kind==.function&&!sc.isCoroutine&&!sc.isGenerator&&decide N.Nodup&&decide (N.take P.length=P)&&P.all (λ x=>sc.names.lookup x==Za .local||sc.names.lookup x==Za .cell)&&sc.names.all (λ y=>!(y.2==.free))
theorem scOk.of {N P:List Str}{sc:ZaY}(h:scOk N P sc=Zd):FnScope N P sc:=by
 simp only[scOk,Zl,beq_iff_eq,ZaO,decide_eq_true_eq,ZbO,Za4,beq_eq_false_iff_ne] at h
 obtain⟨⟨⟨⟨⟨⟨h1,h2⟩,h3⟩,h4⟩,h5⟩,h6⟩,h7⟩:=h
 exact⟨h1,h2,h3,h4,h5,h6,h7⟩
def FnB (x q:Str)(d:D4):Prop:=FnScope d.N d.ps (Jy d.st)/\d.dvs=[]/\d.qual=q/\∀(kV doc pm:Ze)(an:Option Zj)(cdv ct:Ze)(us:List Ze),us.length=d.ps.length->ZdK (W.fnOf x d.qual (Qi d.st) (JG d.st) (Jy d.st) .none kV doc pm an cdv ct) ⟨us,[]⟩=pure (d.ps.zip us)
section
variable {x q:Str}{d:D4}{h:ZZ}{a C:Zj}{oc kV dc pm cd ct:Ze}{od an:Option Zj}{sl:Array (Option Ze)}
theorem Jl5 (B:FnB x q d)(hl:K.lookup a=Za ⟨oc,od,.func (W.fnOf x q (Qi d.st) (JG d.st) (Jy d.st) .none kV dc pm an cd ct),sl⟩)(hc:W.codeIn K cd q=Zd)(hk:W.keepIn K (.ref a)=Zd):∃fd,DefOk K x d a fd:=by
 obtain⟨s,v,rfl,b⟩:=B
 exact⟨_,Jum hl hc hk s v (b _ _ _ _ _ _)⟩
theorem J2 (X:K.In h)(G:h.Ns Zm mg)(B:FnB x q d)(ha:W.nsIn K Zm x=Za (Za (.ref a)):=by k_is)(hl:K.lookup a=Za ⟨oc,od,.func (W.fnOf x q (Qi d.st) (JG d.st) (Jy d.st) .none kV dc pm an cd ct),sl⟩:=by k_is)(hc:W.codeIn K cd q=Zd:=by k_is)(hk:W.keepIn K (.ref a)=Zd:=by k_is):∃fa fd,mg x=Za (.ref fa)/\DefOk K x d fa fd :=
 let ⟨fd,D⟩:=Jl5 B hl hc hk
 ⟨a,fd,W.mg_of X G ha,D⟩
theorem XY (B:FnB x q d)(ha:W.findIn K (.ref C) x=Za (Za (.ref a)):=by k_is)(hi:W.isFn K (.ref a)=Zd:=by k_is)(hl:K.lookup a=Za ⟨oc,od,.func (W.fnOf x q (Qi d.st) (JG d.st) (Jy d.st) .none kV dc pm an cd ct),sl⟩:=by k_is)(hc:W.codeIn K cd q=Zd:=by k_is)(hk:W.keepIn K (.ref a)=Zd:=by k_is):∃fa fd,Meth K C x fa/\DefOk K x d fa fd :=
 let ⟨fd,D⟩:=Jl5 B hl hc hk
 ⟨a,fd,⟨ha,hi,hk⟩,D⟩
theorem J19 (B:FnB "__init__" q d)(ha:W.findIn K (.ref C) "__init__"=Za (Za (.ref a)):=by k_is)(hi:W.isFn K (.ref a)=Zd:=by k_is)(hl:K.lookup a=Za ⟨oc,od,.func (W.fnOf "__init__" q (Qi d.st) (JG d.st) (Jy d.st) .none kV dc pm an cd ct),sl⟩:=by k_is)(hc:W.codeIn K cd q=Zd:=by k_is)(hk:W.keepIn K (.ref a)=Zd:=by k_is)(hm:W.makesIn K C=Zd:=by k_is)(hq:W.keepIn K (.ref C)=Zd:=by k_is):∃fa fd,Mk K C fa/\DefOk K "__init__" d fa fd :=
 let ⟨fd,D⟩:=Jl5 B hl hc hk
 ⟨a,fd,⟨hm,ha,hi,hq⟩,D⟩
end
theorem Jy4 {C f:Zj}(x:JV K C f=Zd)(h:ZZ)(I:K.In h):ExC h C:=by
 obtain⟨bm,N,nm,q,bs,hdct,sn,sub,ab,col,dd,k0,k1,k2,k3,k5,mN,oI,h1,_,_,T,_⟩:=JV.obj x I
 exact⟨nm,q,N,bs,bm,hdct,sn,sub,ab,col,dd,k0,k1,k2,k3,k5,_,h1,T.hasType (by decide)⟩
theorem Jz3 {q:Str}{d:D4}{a C:Zj}{oc kV dc pm cd ct:Ze}{od an:Option Zj}{sl:Array (Option Ze)}(B:FnB "__init__" q d)(_:W.findIn K (.ref C) "__init__"=Za (Za (.ref a)))(hl:K.lookup a=Za ⟨oc,od,.func (W.fnOf "__init__" q (Qi d.st) (JG d.st) (Jy d.st) .none kV dc pm an cd ct),sl⟩)(hc:W.codeIn K cd q=Zd)(hk:W.keepIn K (.ref a)=Zd)(hx:JV K C a=Zd)(hq:W.keepIn K (.ref C)=Zd):∃fa fd,JV K C fa=Zd/\W.keepIn K (.ref C)=Zd/\DefOk K "__init__" d fa fd :=
 let ⟨fd,D⟩:=Jl5 B hl hc hk
 ⟨a,fd,hx,hq,D⟩
theorem Jwu {ce:CeT}{prog:ZA}{w:ZM}{base:ZZ}(O:TabOk ce T K mg)(B:T.tabs≠[]->Qs mg base)(k:Nat){d:D4}{fa:Zj}{fd:Zap}{x:Str}(hp:d.ps=[x])(ok:DefOk K "law" d fa fd) :
  FnOk prog w K mg base (CXI prog w) (4*k) fa fd [x] (Xp K x (run T k d)):=by
 have:=(Jun (prog:=prog) (w:=w) (base:=base) O B k "law" d fa fd ok).ok
 rw[hp] at this
 exact Jsc this
end
def WR {α:Type}(r:Res α)(Q:α->IH->Prop):Prop:=match r with
 | .ok a h=>Q a h
 | _=>False
def WS (r:SRes)(N:ISt->IH->Prop)(R:IV->IH->Prop):Prop:=match r with
 | .next σ h=>N σ h
 | .ret v h=>R v h
 | _=>False
section
variable {α β:Type}{σ:ISt}{h:IH}{Q:α->IH->Prop}{N:ISt->IH->Prop}{R:IV->IH->Prop}
theorem WR.mono {r:Res α}{P Q:α->IH->Prop}(x:WR r P)(f:∀a h,P a h->Q a h):WR r Q:=by
 cases r with
 | ok a h=>exact f a h x
 | exc n h=>exact x
 | stuck=>exact x
theorem Jg {r:Res α}{a:α}{h:IH}(e:r=.ok a h)(q:Q a h):WR r Q:=by rw[e];exact q
theorem WR.eq {r:Res α}(x:WR r Q):∃a h,r=.ok a h/\Q a h:=by
 cases r with
 | ok a h=>exact⟨a,h,rfl,x⟩
 | exc n h=>exact x.elim
 | stuck=>exact x.elim
theorem WS.mono {r:SRes}{N N':ISt->IH->Prop}{R R':IV->IH->Prop}(x:WS r N R)(f:∀σ h,N σ h->N' σ h)(g:∀v h,R v h->R' v h):WS r N' R':=by
 cases r with
 | next σ h=>exact f σ h x
 | ret v h=>exact g v h x
 | _=>exact x
theorem QZ (a:α):WR (.ok a h) Q=Q a h:=rfl
theorem Js (r:Res α)(f:α->IH->Res β)(Q:β->IH->Prop):WR (r.bind f) Q=WR r λ a h=>WR (f a h) Q:=by cases r<;>rfl
theorem Jyi (r:Res α):WR r.nx Q=WR r Q:=by cases r<;>rfl
theorem QH (c:Prop)[Decidable c](x y:Res α):WR (if c then x else y) Q=((c->WR x Q)/\(¬c->WR y Q)):=by
 by_cases hc:c<;>simp[hc]
theorem QI (r:Res α)(k:α->IH->SRes):WS (rS σ r k) N R=WR r λ a h=>WS (k a h) N R:=by cases r<;>rfl
theorem Jmm (r:SRes)(Q:IV->IH->Prop):WR r.fin Q=WS r (λ _ h=>Q .non h) Q:=by
 cases r with
 | exc n σ h=>show WR (match h[n]? with|some (.exc _ _)=>Res.exc n h|_=>Res.stuck) Q=False;split<;>rfl
 | _=>rfl
theorem Jlg (σ:ISt):WS (.next σ h) N R=N σ h:=rfl
theorem Jrr (v:IV):WS (.ret v h) N R=R v h:=rfl
theorem Jmx (a b:S1):WS (Je a b σ h) N R=WS (a σ h) (λ σ1 h1=>WS (b σ1 h1) N R) R:=by
 unfold Je;cases a σ h<;>rfl
theorem Jrq:WS (Jv σ h) N R=N σ h:=rfl
theorem Jlh:WS (Jtj σ h) N R=N σ h:=rfl
theorem Jmy (i:Nat)(e:E1):WS (Jk i e σ h) N R=WR (e σ h) λ v h1=>N (σ.set i (Za v)) h1:=by unfold Jk;rw[QI];rfl
theorem Jua (t:T1)(a b:S1):WS (sIf t a b σ h) N R=WR (t σ h) λ c h1=>(c=Zd->WS (a σ h1) N R)/\(c=Zh->WS (b σ h1) N R):=by
 unfold sIf;rw[QI];congr 1;funext c h1;cases c<;>simp
theorem Jiu (e:E1):WS (Jm e σ h) N R=WR (e σ h) R:=by unfold Jm;rw[QI];rfl
theorem Jli:WS (Jxh σ h) N R=R .non h:=rfl
theorem Jit (e:E1):WS (JO e σ h) N R=WR (e σ h) λ _ h1=>N σ h1:=by unfold JO;rw[QI];rfl
theorem Jmv (e:E1)(g:G1):WS (sAsg e g σ h) N R=WR (e σ h) λ v h1=>WS (g v σ h1) N R:=by unfold sAsg;rw[QI]
theorem Jro (i:Nat)(v:IV):WS (gNm i v σ h) N R=N (σ.set i (Za v)) h:=rfl
theorem Jrp (n:Nat)(g:List IV->ISt->IH->SRes)(xs:List IV):WS (gTp n g (.tup xs) σ h) N R=(xs.length=n/\WS (g xs σ h) N R):=by
 unfold gTp
 by_cases hn:xs.length=n
 ·simp[hn]
 ·simp[hn,WS]
theorem Jyn:WS (gN [] σ h) N R=N σ h:=rfl
theorem Jym (i:Nat)(r:List IV->ISt->IH->SRes)(v:IV)(vs:List IV):WS (gC (gNm i) r (v::vs) σ h) N R=WS (r vs (σ.set i (Za v)) h) N R:=rfl
theorem Jlf (f:Str)(o e:E1):WS (Qz f o e σ h) N R=WR (e σ h) λ v h1=>WR (o σ h1) λ ov h2=>∃i c fs,ov=.ref i/\h2[i]?=Za (.ins c fs)/\fs.length<1000/\N σ (h2.set i (.ins c (putI f v fs))):=by
 unfold Qz;rw[QI];congr 1;funext v h1;rw[QI];congr 1;funext ov h2
 cases ov with
 | ref i =>
  cases e:h2[i]? with
  | none=>simp[WS,e]
  | some o =>
   cases o with
   | ins c fs =>
    by_cases hl:fs.length<1000
    ·simp only[e,hl,if_true,WS]
     refine propext ⟨λ q=>⟨i,c,fs,rfl,e,hl,q⟩,λ ⟨i',c',fs',e1,e2,_,q⟩=>?_⟩
     cases e1
     rw[e] at e2
     cases e2
     exact q
    ·simp only[e,hl,if_false,WS]
     refine propext ⟨λ q=>q.elim,λ ⟨i',c',fs',e1,e2,hl',_⟩=>?_⟩
     cases e1
     rw[e] at e2
     cases e2
     exact hl hl'
   | _=>simp[WS,e]
 | _=>simp[WS]
theorem Jmw (it:I1)(g:G1)(b:S1):WS (sFor it g b σ h) N R=WR (it σ h) λ J h1=>WS (JY J.chk g b J.xs σ h1) N R:=by unfold sFor;rw[QI]
theorem Qr (v:IV)(Q:IV->IH->Prop):WR (eC v σ h) Q=Q v h:=rfl
theorem Vo (f:IV->IV->IH->Res IV)(a b:E1)(Q:IV->IH->Prop):WR (Jc f a b σ h) Q=WR (a σ h) λ x h1=>WR (b σ h1) λ y h2=>WR (f x y h2) Q:=by
 unfold Jc;rw[Js];congr 1;funext x h1;rw[Js]
theorem Jt9 (f:IV->IH->Res IV)(a:E1)(Q:IV->IH->Prop):WR (eUn f a σ h) Q=WR (a σ h) λ x h1=>WR (f x h1) Q:=by unfold eUn;rw[Js]
theorem Jq7 (a b:E1)(tr:IV->IH->Res Bool)(Q:IV->IH->Prop):WR (eAnd a b tr σ h) Q=WR (a σ h) λ x h1=>WR (tr x h1) λ c h2=>(c=Zd->WR (b σ h2) Q)/\(c=Zh->Q x h2):=by
 unfold eAnd;rw[Js];congr 1;funext x h1;rw[Js];congr 1;funext c h2;cases c<;>simp[WR]
theorem Jyj (a b:E1)(tr:IV->IH->Res Bool)(Q:IV->IH->Prop):WR (eOr a b tr σ h) Q=WR (a σ h) λ x h1=>WR (tr x h1) λ c h2=>(c=Zd->Q x h2)/\(c=Zh->WR (b σ h2) Q):=by
 unfold eOr;rw[Js];congr 1;funext x h1;rw[Js];congr 1;funext c h2;cases c<;>simp[WR]
theorem Jx9 (t:T1)(a b:E1)(Q:IV->IH->Prop):WR (eIf t a b σ h) Q=WR (t σ h) λ c h1=>(c=Zd->WR (a σ h1) Q)/\(c=Zh->WR (b σ h1) Q):=by
 unfold eIf;rw[Js];congr 1;funext c h1;cases c<;>simp
theorem Jld (a b:T1)(Q:Bool->IH->Prop):WR (Xr a b σ h) Q=WR (a σ h) λ c h1=>(c=Zd->WR (b σ h1) Q)/\(c=Zh->Q Zh h1):=by
 unfold Xr;rw[Js];congr 1;funext c h1;cases c<;>simp[WR]
theorem Jmt (a b:T1)(Q:Bool->IH->Prop):WR (tOrI a b σ h) Q=WR (a σ h) λ c h1=>(c=Zd->Q Zd h1)/\(c=Zh->WR (b σ h1) Q):=by
 unfold tOrI;rw[Js];congr 1;funext c h1;cases c<;>simp[WR]
theorem Jis (a:T1)(Q:Bool->IH->Prop):WR (JA a σ h) Q=WR (a σ h) λ c h1=>Q (!c) h1:=by unfold JA;rw[Js];rfl
theorem Yq (tr:IV->IH->Res Bool)(a:E1)(Q:Bool->IH->Prop):WR (Ji tr a σ h) Q=WR (a σ h) λ x h1=>WR (tr x h1) Q:=by unfold Ji;rw[Js]
theorem Jfp (f g:IV->IV->IH->Res IV)(a b c:E1)(Q:IV->IH->Prop):WR (Q9 f g a b c σ h) Q=WR (a σ h) λ x h1=>WR (b σ h1) λ y h2=>WR (f x y h2) λ k h3=>∃t,k=.bl t/\(t=Zd->WR (c σ h3) λ z h4=>WR (g y z h4) Q)/\(t=Zh->Q (.bl Zh) h3):=by
 unfold Q9;rw[Js];congr 1;funext x h1;rw[Js];congr 1;funext y h2;rw[Js];congr 1;funext k h3
 cases k with
 | bl t =>
  cases t with
  | true =>
   show WR ((c σ h3).bind λ z h4=>g y z h4) Q=_
   rw[Js]
   simp
  | false=>simp[WR]
 | _=>simp[WR]
theorem Jla (Q:List IV->IH->Prop):WR (Jd σ h) Q=Q [] h:=rfl
theorem V6 (a:E1)(r:A1)(Q:List IV->IH->Prop):WR (Jb a r σ h) Q=WR (a σ h) λ x h1=>WR (r σ h1) λ xs h2=>Q (x::xs) h2:=by
 unfold Jb;rw[Js];congr 1;funext x h1;rw[Js];rfl
theorem Jmu (a:A1)(Q:IV->IH->Prop):WR (eTup a σ h) Q=WR (a σ h) λ xs h1=>xs.length<=sizeLine/\Q (.tup xs) h1:=by
 unfold eTup;rw[Js];congr 1;funext xs h1;rw[QH]
 by_cases hz:xs.length<=sizeLine<;>simp[hz,WR]
theorem VR (a:A1)(Q:IV->IH->Prop):WR (eLst a σ h) Q=WR (a σ h) λ xs h1=>xs.length<=sizeLine/\Q (.ref h1.length) (h1++[.lst xs]):=by
 unfold eLst;rw[Js];congr 1;funext xs h1;rw[QH]
 by_cases hz:xs.length<=sizeLine<;>simp[hz,WR]
theorem Ql (f:List IV->IH->Res IV)(d:List IV)(a:A1)(Q:IV->IH->Prop):WR (Jn f d a σ h) Q=WR (a σ h) λ vs h1=>WR (f (vs++d) h1) Q:=by
 unfold Jn;rw[Js]
theorem Yp (c:Str)(f:List IV->IH->Res IV)(d:List IV)(a:A1)(Q:IV->IH->Prop):WR (QK c f d a σ h) Q=WR (a σ h) λ vs h1=>WR (f (.ref h1.length::(vs++d)) (h1++[.ins c []])) λ r h2=>r=.non/\Q (.ref h1.length) h2:=by
 unfold QK;rw[Js];congr 1;funext vs h1;rw[Js];congr 1;funext r h2;cases r<;>simp[WR]
theorem Jx2 (f:List IV->IH->Res IV)(a:A1)(Q:IV->IH->Prop):WR (eCB f a σ h) Q=WR (a σ h) λ vs h1=>WR (f vs h1) Q:=by unfold eCB;rw[Js]
theorem Jrj (f:IV->IH->Res IV)(x:IV)(Q:IV->IH->Prop):WR (on1 f [x] h) Q=WR (f x h) Q:=rfl
theorem Jmn (ans:Ty->Option Bool)(e:E1)(Q:IV->IH->Prop):WR (eIsi ans e σ h) Q=WR (e σ h) λ v h1=>∃b,(tyI v h1).bind ans=Za b/\Q (.bl b) h1:=by
 unfold eIsi;rw[Js];congr 1;funext v h1
 cases (tyI v h1).bind ans<;>simp[WR]
theorem Jiq (Q:Option Int->IH->Prop):WR (QT σ h) Q=Q Zc h:=rfl
theorem Jir (e:E1)(Q:Option Int->IH->Prop):WR (JK e σ h) Q=WR (e σ h) λ v h1=>∃i,v=.int i/\Q (Za i) h1:=by
 unfold JK;rw[Js];congr 1;funext v h1;cases v<;>simp[WR]
theorem VT (f:IV->Option Int->Option Int->IH->Res IV)(e:E1)(lo hi:O1)(Q:IV->IH->Prop):WR (eSl f e lo hi σ h) Q=WR (e σ h) λ x h1=>WR (lo σ h1) λ l h2=>WR (hi σ h2) λ u h3=>WR (f x l u h3) Q:=by
 unfold eSl;rw[Js];congr 1;funext x h1;rw[Js];congr 1;funext l h2;rw[Js]
def QA (f:Str)(v:IV)(h:IH):Option IV:=match v with
 | .ref i=>(match h[i]? with
  | some (.ins _ fs)=>fs.lookup f
  | _=>Zc)
 | _=>Zc
theorem Jrb (f:Str)(o:E1)(Q:IV->IH->Prop):WR (eFld f o σ h) Q=WR (o σ h) λ v h1=>∃x,QA f v h1=Za x/\Q x h1:=by
 unfold eFld;rw[Js];congr 1;funext v h1
 cases v with
 | ref i =>
  unfold QA
  cases e:h1[i]? with
  | none=>simp[WR,e]
  | some ob =>
   cases ob with
   | ins c fs=>cases e2:fs.lookup f<;>simp[WR,e,e2]
   | _=>simp[WR,e]
 | _=>simp[WR,QA]
variable {i j:Int}{x y:Str}{P:IV->IH->Prop}
theorem Jml (i j:Int):WR (Jo (.int i) (.int j) h) P=P (.int (i+j)) h:=rfl
theorem Jrl (i j:Int):WR (JN (.int i) (.int j) h) P=P (.int (i-j)) h:=rfl
theorem Jrg (i:Int):WR (Jw6 (.int i) h) P=P (.int (-i)) h:=rfl
theorem Jmr (i j:Int):WR (JL (.int i) (.int j) h) P=(Qt i j/\P (.int (i*j)) h):=by
 show WR (Xj (.int i) (.int j) h) P=_
 unfold Xj;rw[QH];by_cases hm:Qt i j<;>simp[hm,WR]
theorem Jin (i j:Int):WR (JJ (.int i) (.int j) h) P=((0<j/\j.natAbs.log2<9000)/\P (.int (i/j)) h):=by
 unfold JJ;rw[QH];by_cases hm:0<j/\j.natAbs.log2<9000<;>simp[hm,WR]
theorem Jmq (i j:Int):WR (J7 (.int i) (.int j) h) P=(0<j/\P (.int (i%j)) h):=by
 unfold J7;rw[QH];by_cases hm:0<j<;>simp[hm,WR]
theorem VS (i j:Int):WR (JM (.int i) (.int j) h) P=((0<=j/\j<=1000000/\i.natAbs<2^64)/\P (.int (i^j.toNat)) h):=by
 unfold JM;rw[QH];by_cases hm:0<=j/\j<=1000000/\i.natAbs<2^64<;>simp[hm,WR]
theorem Jim (x y:Str):WR (Jo (.str x) (.str y) h) P=(x.length+y.length<=sizeLine/\P (.str (x++y)) h):=by
 unfold Jo;rw[QH];by_cases hm:x.length+y.length<=sizeLine<;>simp[hm,WR]
theorem Jyd (i j:Int):WR (cLt (.int i) (.int j) h) P=P (.bl (decide (i<j))) h:=rfl
theorem Jyb (i j:Int):WR (cLe (.int i) (.int j) h) P=P (.bl (decide (i<=j))) h:=rfl
theorem J1f (x y:Str):WR (cLe (.str x) (.str y) h) P=P (.bl (!decide (y.cps.toList<x.cps.toList))) h:=rfl
theorem Jx8 (i j:Int):WR (cGt (.int i) (.int j) h) P=P (.bl (decide (j<i))) h:=rfl
theorem Jx7 (i j:Int):WR (cGe (.int i) (.int j) h) P=P (.bl (decide (j<=i))) h:=rfl
theorem Jx6 (i j:Int):WR (cEq (.int i) (.int j) h) P=P (.bl (decide (i=j))) h:=rfl
theorem Jyh (i j:Int):WR (cNe (.int i) (.int j) h) P=P (.bl (!decide (i=j))) h:=rfl
theorem Jq9 (x y:Str):WR (cEq (.str x) (.str y) h) P=P (.bl (decide (x=y))) h:=rfl
theorem Jrh (x y:Str):WR (cNe (.str x) (.str y) h) P=P (.bl (!decide (x=y))) h:=rfl
theorem Jq8 (b:Bool)(P:Bool->IH->Prop):WR (asB (.bl b) h) P=P b h:=rfl
theorem Jle (b:Bool)(P:Bool->IH->Prop):WR (tru (.bl b) h) P=P b h:=rfl
theorem Jri (tr:IV->IH->Res Bool)(v:IV):WR (Vz tr v h) P=WR (tr v h) λ c h1=>P (.bl (!c)) h1:=by unfold Vz;rw[Js];rfl
theorem Xw (v w:IV):WR (cIs v w h) P=∃b,isI v w=Za b/\P (.bl b) h:=by unfold cIs;cases isI v w<;>simp[WR]
theorem Jt3 (v w:IV):WR (VZ v w h) P=∃b,isI v w=Za b/\P (.bl (!b)) h:=by unfold VZ;cases isI v w<;>simp[WR]
theorem Q5 {chk:IH->Prop}{g:G1}{b:S1}(I:Nat->ISt->IH->Prop){xs:List IV}(hc:∀i σ h,I i σ h->chk h)
  (turn:∀i (hi:i<xs.length) σ h,I i σ h->WS (g xs[i] σ h) (λ σ1 h1=>WS (b σ1 h1) (I (i+1)) R) λ _ _=>False)(done:∀σ h,I xs.length σ h->N σ h)(start:I 0 σ h):WS (JY chk g b xs σ h) N R:=by
 have key:∀(n i:Nat)(σ:ISt)(h:IH),xs.length-i=n->i<=xs.length->I i σ h->WS (JY chk g b (xs.drop i) σ h) N R:=by
  intro n
  induction n with
  | zero =>
   intro i σ h hn hi hI
   have:i=xs.length:=by omega
   subst this
   rw[ZdU]
   unfold JY
   rw[if_pos (hc _ _ _ hI)]
   exact done _ _ hI
  | succ n ih =>
   intro i σ h hn hi hI
   have hlt:i<xs.length:=by omega
   rw[Zay hlt]
   unfold JY
   rw[if_pos (hc _ _ _ hI)]
   have t:=turn i hlt σ h hI
   cases eg:g xs[i] σ h with
   | next σ1 h1 =>
    rw[eg] at t
    have t':WS (b σ1 h1) (I (i+1)) R:=t
    dsimp only
    cases eb:b σ1 h1 with
    | next σ2 h2=>rw[eb] at t';exact ih (i+1) σ2 h2 (by omega) hlt t'
    | ret v h2=>rw[eb] at t';exact t'
    | brk σ2 h2=>rw[eb] at t';exact t'.elim
    | cont σ2 h2=>rw[eb] at t';exact t'.elim
    | exc m σ2 h2=>rw[eb] at t';exact t'.elim
    | stuck=>rw[eb] at t';exact t'.elim
   | ret v h1=>rw[eg] at t;exact t.elim
   | brk σ2 h2=>rw[eg] at t;exact t.elim
   | cont σ2 h2=>rw[eg] at t;exact t.elim
   | exc m σ2 h2=>rw[eg] at t;exact t.elim
   | stuck=>rw[eg] at t;exact t.elim
 have:=key xs.length 0 σ h (by omega) (Zaa _) start
 simpa using this
end
section
variable {α:Type}{h h1:IH}{a:α}{r:Res α}{P:IV->IH->Prop}
theorem Jz (x:WR r λ v h'=>v=a/\h'=h1):r=.ok a h1:=by
 obtain⟨_,_,e,rfl,rfl⟩:=x.eq
 exact e
theorem VQ (xs:List IV)(n:Int):WR (Jh (.tup xs) (.int n) h) P=∃x,atI xs n=Za x/\P x h:=by
 unfold Jh;cases e:atI xs n<;>simp[WR,e]
theorem Xx (xs:List IV)(n:Int):WR (Jh (.rol xs) (.int n) h) P=∃x,atI xs n=Za x/\P x h:=by
 unfold Jh;cases e:atI xs n<;>simp[WR,e]
theorem VP (i:Nat)(n:Int):WR (Jh (.ref i) (.int n) h) P=∃xs,h[i]?=Za (.lst xs)/\∃x,atI xs n=Za x/\P x h:=by
 unfold Jh
 cases e:h[i]? with
 | none=>simp[WR,e]
 | some o =>
  cases o with
  | lst xs=>cases e2:atI xs n<;>simp[WR,e,e2]
  | _=>simp[WR,e]
theorem Yo (xs:List IV):WR (lenI (.tup xs) h) P=P (.int xs.length) h:=rfl
theorem Ym (xs:List IV):WR (lenI (.rol xs) h) P=P (.int xs.length) h:=rfl
theorem Yl (i:Nat):WR (lenI (.ref i) h) P=∃xs,h[i]?=Za (.lst xs)/\P (.int xs.length) h:=by
 unfold lenI
 cases e:h[i]? with
 | none=>simp[WR,e]
 | some o=>cases o<;>simp[WR,e]
theorem Yn (x:Str):WR (lenI (.str x) h) P=(x.length<=sizeLine/\P (.int x.length) h):=by
 unfold lenI;rw[QH];by_cases hm:x.length<=sizeLine<;>simp[hm,WR]
theorem Qd {xs:List α}{n:Nat}{x:α}(e:xs[n]?=Za x):atI xs (n:Int)=Za x:=by
 have hn:n<xs.length:=(Zo.mp e).1
 have:(n:Int)<xs.length:=by omega
 simp[atI,ixN,this,e]
theorem Vh {x:α}{xs:List α}:atI (x::xs) 0=Za x:=by simp[atI,ixN]
theorem Vt {x y:α}{xs:List α}:atI (x::y::xs) 1=Za y:=Qd (n:=1) rfl
theorem XD {x y z:α}{xs:List α}:atI (x::y::z::xs) 2=Za z:=Qd (n:=2) rfl
theorem V9 {x y z u v:α}{xs:List α}:atI (x::y::z::u::v::xs) 4=Za v:=Qd (n:=4) rfl
theorem Ye (i:Int):tyI (.int i) h=Za .int:=rfl
theorem Yi (x:Str):tyI (.str x) h=Za .str:=rfl
theorem Yj (xs:List IV):tyI (.tup xs) h=Za .tup:=rfl
theorem Yf (b:Bool):tyI (.bl b) h=Za .bl:=rfl
theorem Yg:tyI .non h=Za .non:=rfl
theorem Yh (xs:List IV):tyI (.rol xs) h=Za .lst:=rfl
theorem Xs {i:Nat}{xs:List IV}(e:h[i]?=Za (.lst xs)):tyI (.ref i) h=Za .lst:=by simp[tyI,e]
theorem grow {i:Nat}{o:IX}{g:IH}(e:h[i]?=Za o):(h++g)[i]?=Za o:=by
 rw[ZC (Zo.mp e).1];exact e
theorem Jq {o:IX}:(h++[o])[h.length]?=Za o:=by simp
theorem Qx {i:Nat}{o:IX}(e:h[i]?=Za o):i<h.length:=(Zo.mp e).1
theorem Ji2 (f:IV->Bool):∀xs:List IV,Vi (xs.map λ x=>.bl (f x))=Za (xs.map f)
 | []=>rfl
 | x::xs=>by simp[Vi,Ji2 f xs]
theorem all_map {f:IV->Bool}{i:Nat}{xs:List IV}(e:h[i]?=Za (.lst (xs.map λ x=>.bl (f x)))):allI (.ref i) h=.ok (.bl (xs.all f)) h:=by
 simp[allI,e,Ji2,List.all_map,Function.comp_def]
end
def Ex (h h':IH):Prop:=∃g,h'=h++g
theorem Ex.refl (h:IH):Ex h h:=⟨[],by simp⟩
theorem Ex.trans {h h1 h2:IH}(a:Ex h h1)(b:Ex h1 h2):Ex h h2:=by
 obtain⟨g,rfl⟩:=a
 obtain⟨g',rfl⟩:=b
 exact⟨g++g',by simp⟩
theorem Ex.get {h h':IH}(a:Ex h h'){i:Nat}{o:IX}(e:h[i]?=Za o):h'[i]?=Za o:=by
 obtain⟨g,rfl⟩:=a
 exact grow e
theorem Ex.one (h:IH)(o:IX):Ex h (h++[o]):=⟨[o],rfl⟩
theorem Ex.len {h h':IH}(a:Ex h h'):h.length<=h'.length:=by
 obtain⟨g,rfl⟩:=a
 simp
section
variable {α:Type}{h:IH}
theorem Jvs {chk:IH->Prop}{t:T1}{e:E1}{caps:ISt}{p:IV->Bool}{f:IV->IV}(i0:Nat):∀{xs acc:List IV}{o:Option IV}{h1:IH},h1[i0]?=Za (.lst acc)->(∀h2,(∀j ob,j≠i0->h1[j]?=Za ob->h2[j]?=Za ob)->chk h2)->acc.length+xs.length<sizeLine ->
  (∀x∈xs,∀h2,(∀j ob,j≠i0->h1[j]?=Za ob->h2[j]?=Za ob)->WR (t (Za x::caps) h2) λ b h3=>b=p x/\Ex h2 h3) ->
  (∀x∈xs,p x=Zd->∀h2,(∀j ob,j≠i0->h1[j]?=Za ob->h2[j]?=Za ob)->WR (e (Za x::caps) h2) λ v h3=>v=f x/\Ex h2 h3) ->
  WR (JQ chk (gNm 0) t e i0 xs (o::caps) h1) λ v h3=>v=.ref i0/\∃g,h3=h1.set i0 (.lst (acc++(xs.filter p).map f))++g
 | [],acc,o,h1,hi,hc,_,_,_=>by
  unfold JQ
  rw[if_pos (hc h1 λ _ _ _ q=>q)]
  refine⟨rfl,[],?_⟩
  simp only[Zeh,Zaz,Za2]
  refine(Zcc λ j=>?_)
  by_cases hj:j=i0
  ·subst hj
   rw[hi,ZU (Qx hi)]
  ·rw[ZX (ZT hj)]
 | x::xs,acc,o,h1,hi,hc,hl,ht,he=>by
  unfold JQ
  rw[if_pos (hc h1 λ _ _ _ q=>q)]
  dsimp only[gNm,Zb4]
  have hl':acc.length+xs.length+1<sizeLine:=by simpa [Nat.add_assoc] using hl
  obtain⟨b,h2,e1,rfl,x2⟩:=(ht x Zs h1 λ _ _ _ q=>q).eq
  rw[e1]
  have k12:∀j ob,j≠i0->h1[j]?=Za ob->h2[j]?=Za ob:=λ j ob _ q=>x2.get q
  cases hp:p x with
  | false =>
   dsimp only
   refine WR.mono (Jvs i0 (x2.get hi) (λ h3 q=>hc h3 λ j ob n r=>q j ob n (k12 j ob n r)) (by omega) (λ y hy h3 q=>ht y (Zn _ hy) h3 λ j ob n r=>q j ob n (k12 j ob n r))
    λ y hy hpy h3 q=>he y (Zn _ hy) hpy h3 λ j ob n r=>q j ob n (k12 j ob n r)) λ v h3 ⟨ev,g,eg⟩=>⟨ev,?_⟩
   obtain⟨g2,rfl⟩:=x2
   refine⟨g2++g,?_⟩
   rw[eg,Zbn (h:=Qx hi)]
   simp[hp]
  | true =>
   dsimp only
   obtain⟨v,h3,e3,rfl,x3⟩:=(he x Zs hp h2 k12).eq
   rw[e3]
   dsimp only
   rw[x3.get (x2.get hi)]
   dsimp only
   rw[if_pos (by omega)]
   have k13:∀j ob,j≠i0->h1[j]?=Za ob->(h3.set i0 (.lst (acc++[f x])))[j]?=Za ob:=λ j ob n q=>by
    rw[ZX (ZT n)]
    exact x3.get (x2.get q)
   refine WR.mono (Jvs i0 (acc:=acc++[f x]) (by rw[ZU (Qx (x3.get (x2.get hi)))]) (λ h4 q=>hc h4 λ j ob n r=>q j ob n (k13 j ob n r)) (by simp;omega) (λ y hy h4 q=>ht y (Zn _ hy) h4 λ j ob n r=>q j ob n (k13 j ob n r))
    λ y hy hpy h4 q=>he y (Zn _ hy) hpy h4 λ j ob n r=>q j ob n (k13 j ob n r)) λ v h4 ⟨ev,g,eg⟩=>⟨ev,?_⟩
   obtain⟨g3,q3⟩:=x2.trans x3
   refine⟨g3++g,?_⟩
   rw[eg,q3,Zbn (h:=Qx hi),Zbn (h:=by rw[Zdj];exact Qx hi),List.set_set]
   simp[hp]
theorem Jlb {it:I1}{t:T1}{e:E1}{js:List Nat}{σ:ISt}{xs:List IV}{chk:IH->Prop}{p:IV->Bool}{f:IV->IV}{h0:IH}(hit:WR (it σ h0) λ J h1=>J.xs=xs/\J.chk=chk/\h1=h)(hl:xs.length<sizeLine)
  (hc:∀h2:IH,(∀(j:Nat)(ob:IX),h[j]?=Za ob->h2[j]?=Za ob)->chk h2)
  (ht:∀x∈xs,∀h2:IH,(∀(j:Nat)(ob:IX),h[j]?=Za ob->h2[j]?=Za ob)->WR (t (Za x::js.map λ j=>(σ[j]?).join) h2) λ b h3=>b=p x/\Ex h2 h3)
  (he:∀x∈xs,p x=Zd->∀h2:IH,(∀(j:Nat)(ob:IX),h[j]?=Za ob->h2[j]?=Za ob)->WR (e (Za x::js.map λ j=>(σ[j]?).join) h2) λ v h3=>v=f x/\Ex h2 h3) :
  WR (Ju it 1 js (gNm 0) t e σ h0) λ v h3=>v=.ref h.length/\∃g,h3=h++.lst ((xs.filter p).map f)::g:=by
 obtain⟨J,h1,e1,q1,q2,rfl⟩:=hit.eq
 unfold Ju
 rw[e1]
 show WR (JQ J.chk (gNm 0) t e h1.length J.xs (Zc::js.map λ j=>(σ[j]?).join) (h1++[.lst []])) _
 rw[q1,q2]
 have lift:∀{h2:IH},(∀j ob,j≠h1.length->(h1++[IX.lst []])[j]?=Za ob->h2[j]?=Za ob)->∀j ob,h1[j]?=Za ob->h2[j]?=Za ob:=λ q j ob r=>q j ob (Z6 (Qx r)) (grow r)
 refine WR.mono (Jvs (p:=p) (f:=f) h1.length (acc:=[]) Jq (λ h2 q=>hc h2 (lift q)) (by simpa using hl) (λ x hx h2 q=>ht x hx h2 (lift q)) λ x hx hp h2 q=>he x hx hp h2 (lift q)) λ v h3 ⟨ev,g,eg⟩=>⟨ev,g,?_⟩
 rw[eg]
 simp
theorem filt {α:Type}(xs:List α):xs.filter (λ _=>Zd)=xs:=List.filter_eq_self.mpr (by simp)
theorem Qm {it:I1}{e:E1}{js:List Nat}{σ:ISt}{xs:List IV}{chk:IH->Prop}{f:IV->IV}{h0:IH}(hit:WR (it σ h0) λ J h1=>J.xs=xs/\J.chk=chk/\h1=h)(hl:xs.length<sizeLine)
  (hc:∀h2:IH,(∀(j:Nat)(ob:IX),h[j]?=Za ob->h2[j]?=Za ob)->chk h2)
  (he:∀x∈xs,∀h2:IH,(∀(j:Nat)(ob:IX),h[j]?=Za ob->h2[j]?=Za ob)->WR (e (Za x::js.map λ j=>(σ[j]?).join) h2) λ v h3=>v=f x/\Ex h2 h3) :
  WR (Ju it 1 js (gNm 0) J8 e σ h0) λ v h3=>v=.ref h.length/\∃g,h3=h++.lst (xs.map f)::g:=by
 have:=Jlb (p:=λ _=>Zd) (f:=f) (t:=J8) (e:=e) (js:=js) (σ:=σ) (h:=h) hit hl hc (λ _ _ h2 _=>⟨rfl,.refl _⟩) λ x hx _ h2 q=>he x hx h2 q
 rwa [filt] at this
theorem Jx {o:IX}{g:IH}:(h++o::g)[h.length]?=Za o:=by simp
theorem Ex.cons (h:IH)(o:IX)(g:IH):Ex h (h++o::g):=⟨_,rfl⟩
end
section
variable {σ:ISt}{h h1:IH}{Q:IV->IH->Prop}{J:ItI->IH->Prop}
theorem Jio (e:E1):WR (J1 e σ h) J=WR (e σ h) λ v h1=>WR (VE v h1) J:=by unfold J1;rw[Js]
theorem Xv (f:List IV->IH->Res ItI)(a:A1):WR (iRg f a σ h) J=WR (a σ h) λ vs h1=>WR (f vs h1) J:=by unfold iRg;rw[Js]
theorem JP (i:Nat):WR (VE (.ref i) h) J=∃xs,h[i]?=Za (.lst xs)/\J ⟨xs,λ h'=>h'[i]?=Za (.lst xs)⟩ h:=by
 show WR (itOf (.ref i) h) J=_
 unfold itOf
 cases e:h[i]? with
 | none=>simp[WR,e]
 | some o=>cases o<;>simp[WR,e]
theorem Jrc (xs:List IV):WR (VE (.rol xs) h) J=J ⟨xs,λ _=>True⟩ h:=rfl
theorem Jre (xs:List IV):WR (VE (.tup xs) h) J=J ⟨xs,λ _=>True⟩ h:=rfl
theorem Jrd (x:Str):WR (VE (.str x) h) J=J ⟨QW x,λ _=>True⟩ h:=rfl
theorem Jx5 (i:Nat):WR (QM [.ref i] h) J=∃xs,h[i]?=Za (.lst xs)/\J ⟨Qp 0 xs,λ h'=>h'[i]?=Za (.lst xs)⟩ h:=by
 show WR (QM [.ref i] h) J=_
 unfold QM
 cases e:h[i]? with
 | none=>simp[WR,e]
 | some o=>cases o<;>simp[WR,e]
theorem Xy (j:Int):WR (JR [.int j] h) J=((-(2^62)<=j/\j<2^62)/\J ⟨rngI 0 j,λ _=>True⟩ h):=by
 unfold JR;rw[QH];exact propext ⟨λ ⟨a,b⟩=>(Classical.em _).elim (λ q=>⟨q,a q⟩) λ q=>(b q).elim,λ ⟨a,b⟩=>⟨λ _=>b,λ q=>absurd a q⟩⟩
theorem Jlc (i j:Int):WR (Vx [.int i,.int j] h) J=((-(2^62)<=i/\i<2^62/\ -(2^62)<=j/\j<2^62)/\J ⟨rngI i j,λ _=>True⟩ h):=by
 unfold Vx;rw[QH];exact propext ⟨λ ⟨a,b⟩=>(Classical.em _).elim (λ q=>⟨q,a q⟩) λ q=>(b q).elim,λ ⟨a,b⟩=>⟨λ _=>b,λ q=>absurd a q⟩⟩
theorem JS (i j:Int):(rngI i j).length=(j-i).toNat:=by simp[rngI]
theorem V0 (i j:Int)(n:Nat)(hn:n<(rngI i j).length):(rngI i j)[n]=.int (i+n):=by simp[rngI]
theorem Jv0 (xs:List IV)(n:Nat)(hn:n<(Qp 0 xs).length):(Qp 0 xs)[n]=.tup [.int n,xs[n]'(by rwa [XQ] at hn)]:=by
 have:=Jf8 xs 0 n
 rw[Zb hn,Zb (by rwa [XQ] at hn)] at this
 simpa using this
theorem VU (i:Nat)(lo hi:Option Int):WR (slI (.ref i) lo hi h) Q=∃xs,h[i]?=Za (.lst xs)/\Q (.ref h.length) (h++[.lst (cutI xs lo hi)]):=by
 unfold slI
 cases e:h[i]? with
 | none=>simp[WR,e]
 | some o=>cases o<;>simp[WR,e]
theorem Jms (xs:List IV)(lo hi:Option Int):WR (slI (.rol xs) lo hi h) Q=Q (.ref h.length) (h++[.lst (cutI xs lo hi)]):=rfl
theorem Jmb (n d:Nat):HT.sIx n d Zc=d:=HT.sIx_none n d
theorem Jfg {α:Type}(xs:List α)(n:Nat):cutI xs Zc (Za (n:Int))=xs.take n:=by
 unfold cutI
 rw[Jmb,HT.sIx_nat]
 simp
theorem Jhz {α:Type}(xs:List α)(n:Nat):cutI xs (Za (n:Int)) Zc=xs.drop n:=by
 unfold cutI
 rw[Jmb,HT.sIx_nat]
 by_cases hn:n<=xs.length
 ·rw[Zc2 hn]
  exact Zaq (by simp)
 ·rw[Nat.min_eq_right (by omega),ZdU,ZcN (by omega)]
  simp
theorem Jvt {α:Type}(xs:List α)(n m:Nat):cutI xs (Za (n:Int)) (Za (m:Int))=(xs.take m).drop n:=by
 unfold cutI
 rw[HT.sIx_nat,HT.sIx_nat]
 refine Zcc λ i=>?_
 simp only[Zc8,List.getElem?_drop]
 by_cases h1:n+i<xs.length
 ·rw[Zc2 (show n<=xs.length by omega)]
  by_cases h3:n+i<m
  ·rw[if_pos h3,if_pos (by omega)]
  ·rw[if_neg h3,if_neg (by omega)]
 ·rw[show xs[n+i]?=Zc from Zb8 (by omega),show xs[min n xs.length+i]?=Zc from Zb8 (by omega)]
  simp
variable {P:Pg}{m:Str}{n i:Nat}{o:E1}{a:A1}{xs:List IV}{c:Str}{fs:List (Str×IV)}
theorem Yk {g:IV->List IV->IH->Res IV}(e:o σ h=.ok (.ref i) h1)(hl:h1[i]?=Za (.lst xs))(hg:bmOf "list" m n=Za g):WR (J0 P m n o a σ h) Q=WR (a σ h1) λ vs h2=>WR (g (.ref i) vs h2) Q:=by
 unfold J0
 rw[e]
 have hi:VD (.ref i) h1=Zh:=by simp[VD,hl]
 have ht:tyS (.ref i) h1="list":=by simp[tyS,hl]
 dsimp only
 rw[hi,ht,hg]
 dsimp only
 rw[if_neg Zq]
 unfold eBm
 rw[e,Js,QZ]
 have:tyOk "list" (.ref i) h1=Zd:=by simp[tyOk,hl]
 rw[if_pos this,Js]
theorem Q3 {f:List IV->IH->Res IV}{d:List IV}(e:o σ h=.ok (.ref i) h1)(hi:h1[i]?=Za (.ins c fs))(hf:fs.lookup m=Zc)(hd:Vu P m n c=Za (f,d)):WR (J0 P m n o a σ h) Q=WR (a σ h1) λ vs h2=>WR (f (.ref i::(vs++d)) h2) Q:=by
 unfold J0
 rw[e]
 have hi':VD (.ref i) h1=Zd:=by simp[VD,hi]
 dsimp only
 rw[hi',if_pos rfl]
 unfold Jr6
 rw[e,Js,QZ]
 dsimp only
 rw[hi]
 dsimp only
 rw[hd,hf]
 dsimp only
 rw[Js]
theorem Jgr (y:IV):WR (V8 (.ref i) [y] h) Q=∃xs,h[i]?=Za (.lst xs)/\xs.length<sizeLine/\Q .non (h.set i (.lst (xs++[y]))):=by
 unfold V8
 cases e:h[i]? with
 | none=>simp[WR,e]
 | some ob =>
  cases ob with
  | lst xs=>by_cases hz:xs.length<sizeLine<;>simp[WR,e,hz]
  | _=>simp[WR,e]
theorem VY:bmOf "list" "append" 1=Za V8:=by kernel_rfl
theorem JE {f:Str}(e:h[i]?=Za (.ins c fs)):QA f (.ref i) h=fs.lookup f:=by simp[QA,e]
theorem Jmp:WR (Qq (.ref i) h) Q=∃xs,h[i]?=Za (.lst xs)/\Q (.ref h.length) (h++[.lst xs]):=by
 unfold Qq
 cases e:h[i]? with
 | none=>simp[WR,e]
 | some ob=>cases ob<;>simp[WR,e]
theorem Jip (xs:List IV):WR (Qq (.tup xs) h) Q=Q (.ref h.length) (h++[.lst xs]):=rfl
theorem Jrn:WR (VN (.ref i) h) Q=∃xs,h[i]?=Za (.lst xs)/\Q (.tup xs) h:=by
 unfold VN
 cases e:h[i]? with
 | none=>simp[WR,e]
 | some ob=>cases ob<;>simp[WR,e]
end
section
variable {σ:ISt}{h:IH}{Q:IV->IH->Prop}
theorem Jk9 (i j:Nat):WR (Jo (.ref i) (.ref j) h) Q=∃xs,h[i]?=Za (.lst xs)/\∃ys,h[j]?=Za (.lst ys)/\xs.length+ys.length<=sizeLine/\Q (.ref h.length) (h++[.lst (xs++ys)]):=by
 unfold Jo
 dsimp only
 split
 ·rename_i xs ys e e'
  rw[QH]
  refine propext ⟨λ ⟨a,b⟩=>?_,λ ⟨xs',f,ys',f',l,q⟩=>?_⟩
  ·by_cases l:xs.length+ys.length<=sizeLine
   ·exact⟨xs,e,ys,e',l,a l⟩
   ·exact(b l).elim
  ·rw[e] at f
   rw[e'] at f'
   cases f
   cases f'
   exact⟨λ _=>q,λ n=>absurd l n⟩
 ·rename_i no
  exact propext ⟨Za9,λ ⟨xs,f,ys,f',_⟩=>(no xs ys f f').elim⟩
end
section
variable {σ:ISt}{h h1:IH}{Q:IV->IH->Prop}{P:Pg}{m:Str}{n i:Nat}{o:E1}{a:A1}{x:Str}
theorem Jon:bmOf "list" "extend" 1=Za Xc:=by kernel_rfl
theorem Jmf:∀zs:List Str,Vn (zs.map IV.str)=Za zs
 | []=>rfl
 | z::zs=>by
  rw[Zu,Vn,Jmf zs];rfl
end
section
variable {σ:ISt}{h:IH}{Q:IV->IH->Prop}{i:Nat}
theorem Jrm:WR (sumI (.ref i) h) Q=∃xs,h[i]?=Za (.lst xs)/\∃ns,Qb xs=Za ns/\Q (.int ns.sum) h:=by
 unfold sumI
 cases e:h[i]? with
 | none=>simp[WR,e]
 | some ob =>
  cases ob with
  | lst xs=>cases q:Qb xs<;>simp[WR,e,q]
  | _=>simp[WR,e]
theorem VC:∀ns:List Int,Qb (ns.map IV.int)=Za ns
 | []=>rfl
 | n::ns=>by
  rw[Zu,Qb,VC ns];rfl
theorem Jyg (aa:A1)(md:E1):WR (XN aa md σ h) Q=WR (aa σ h) λ xs h1=>WR (md σ h1) λ d h2=>∃i,xs=[.ref i]/\∃ys,h2[i]?=Za (.lst ys)/\∃ns,Qb ys=Za ns/\Q (maxD ns d) h2:=by
 unfold XN
 rw[Js]
 congr 1;funext xs h1
 rw[Js]
 congr 1;funext d h2
 match xs with
 | [.ref i] =>
  simp only[Zdk,IV.ref.injEq,and_true,exists_eq_left']
  cases e:h2[i]? with
  | none=>simp[WR]
  | some ob =>
   cases ob with
   | lst ys=>cases q:Qb ys<;>simp[WR,q]
   | _=>simp[WR]
 | []=>simp[WR]
 | [.non]=>simp[WR]
 | [.bl _]=>simp[WR]
 | [.int _]=>simp[WR]
 | [.str _]=>simp[WR]
 | [.tup _]=>simp[WR]
 | [.rol _]=>simp[WR]
 | x::_::_=>cases x<;>simp[WR]
theorem Jrf (aa:A1):WR (XM aa σ h) Q=WR (aa σ h) λ xs h1=>∃i,xs=[.ref i]/\∃ys,h1[i]?=Za (.lst ys)/\∃zs,Vn ys=Za zs/\zs.length+1<Zcm/\Q (.int (cntD (Q0 zs) zs.length)) h1:=by
 unfold XM
 rw[Js]
 congr 1;funext xs h1
 match xs with
 | [.ref i] =>
  simp only[Zdk,IV.ref.injEq,and_true,exists_eq_left']
  cases e:h1[i]? with
  | none=>simp[WR]
  | some ob =>
   cases ob with
   | lst ys =>
    cases q:Vn ys with
    | none=>simp[WR,q]
    | some zs=>by_cases hz:zs.length+1<Zcm<;>simp[WR,q,hz]
   | _=>simp[WR]
 | []=>simp[WR]
 | [.non]=>simp[WR]
 | [.bl _]=>simp[WR]
 | [.int _]=>simp[WR]
 | [.str _]=>simp[WR]
 | [.tup _]=>simp[WR]
 | [.rol _]=>simp[WR]
 | x::_::_=>cases x<;>simp[WR]
theorem Ji6 {zs:List Str}(nd:zs.Nodup):∀i,i<=zs.length->cntD (Q0 zs) i=i
 | 0,_=>rfl
 | i+1,hi=>by
  have ih:=Ji6 nd i (by omega)
  have hm:metB (Q0 zs) i (Q0 zs i)=Zh:=by
   unfold metB
   rw[List.any_eq_false]
   intro j hj
   have hj:=ZaP.mp hj
   simp only[decide_eq_true_eq]
   intro e
   simp only[Q0,Zw,Zb (show j<zs.length by omega),Zb (show i<zs.length by omega),Zcn] at e
   have:=(ZdI nd).mp e
   omega
  unfold cntD
  rw[hm,ih]
  rfl
theorem Jvb (f:Nat->Int)(b:Int):∀(n:Nat),0<n->(∀j,j<n->f j<=b)->JZ f n<=b
 | 0,h,_=>by omega
 | 1,_,q=>q 0 (by omega)
 | n+2,_,q=>by
  rw[Jhl f (by omega)]
  have:=Jvb f b (n+1) (by omega) λ j hj=>q j (by omega)
  have:=q (n+1) (by omega)
  split<;>omega
end
section
variable {h:IH}{Q:IV->IH->Prop}{i:Nat}
theorem Jra {j:Nat}{xs ys:List IV}(hi:h[i]?=Za (.lst xs))(hj:h[j]?=Za (.lst ys))(hl:xs.length+ys.length<=sizeLine):WR (Xc (.ref i) [.ref j] h) Q=Q .non (h.set i (.lst (xs++ys))):=by
 unfold Xc
 simp only[hi,hj]
 rw[if_pos hl]
 rfl
theorem Jyc {aa:A1}{σ:ISt}:WR (eLR aa σ h) Q=WR (aa σ h) λ xs h1=>∃j:Int,xs=[.int j]/\(0<=j/\j<=1000)/\Q (.ref h1.length) (h1++[.lst (rngI 0 j)]):=by
 unfold eLR
 rw[Js]
 congr
 funext xs h1
 split
 ·rename_i j
  by_cases hq:0<=j/\j<=1000
  ·simp[hq,WR]
  ·simp only[if_neg hq]
   refine propext ⟨λ z=>(show False from z).elim,?_⟩
   rintro⟨j',e,z,_⟩
   cases e
   exact absurd z hq
 ·rename_i hne
  refine propext ⟨λ z=>(show False from z).elim,?_⟩
  rintro⟨j',e,_⟩
  exact absurd e (hne j')
end
def KpB (i0:Nat)(h h':IH):Prop:=∀(j:Nat)(ob:IX),j≠i0->h[j]?=Za ob->h'[j]?=Za ob
def Kp (h h':IH):Prop:=∀(j:Nat)(ob:IX),h[j]?=Za ob->h'[j]?=Za ob
theorem KpB.trans {i0:Nat}{a b c:IH}(p:KpB i0 a b)(q:KpB i0 b c):KpB i0 a c:=λ j ob n e=>q j ob n (p j ob n e)
theorem Kp.trans {a b c:IH}(p:Kp a b)(q:Kp b c):Kp a c:=λ j ob e=>q j ob (p j ob e)
theorem Kp.refl (a:IH):Kp a a:=λ _ _ e=>e
theorem Kp.but {i0:Nat}{a b:IH}(p:Kp a b):KpB i0 a b:=λ j ob _ e=>p j ob e
theorem Ex.kp {a b:IH}(x:Ex a b):Kp a b:=λ _ _ e=>x.get e
theorem Jyy {chk:IH->Prop}{e:E1}{caps:ISt}{D:IV->IV->IH->Prop}(i0:Nat)(mono:∀x y h2 h3,KpB i0 h2 h3->D x y h2->D x y h3):∀{xs acc:List IV}{o:Option IV}{h1:IH},h1[i0]?=Za (.lst acc)->(∀h2,KpB i0 h1 h2->chk h2)->acc.length+xs.length<sizeLine ->
  (∀x∈xs,∀h2:IH,KpB i0 h1 h2->i0<h2.length->WR (e (Za x::caps) h2) λ v h3=>Ex h2 h3/\D x v h3) ->
  WR (JQ chk (gNm 0) J8 e i0 xs (o::caps) h1) λ v h3=>v=.ref i0/\∃ys,h3[i0]?=Za (.lst (acc++ys))/\ys.length=xs.length/\KpB i0 h1 h3/\∀(i:Nat) x y,xs[i]?=Za x->ys[i]?=Za y->D x y h3
 | [],acc,o,h1,hi,hc,_,_=>by
  unfold JQ
  rw[if_pos (hc h1 λ _ _ _ q=>q)]
  exact⟨rfl,[],by simpa using hi,rfl,λ _ _ _ q=>q,λ i x y q=>by simp at q⟩
 | x::xs,acc,o,h1,hi,hc,hl,he=>by
  unfold JQ
  rw[if_pos (hc h1 λ _ _ _ q=>q)]
  dsimp only[gNm,Zb4,J8]
  have hl':acc.length+xs.length+1<sizeLine:=by simpa [Nat.add_assoc] using hl
  obtain⟨v,h3,e3,x3,dv⟩:=(he x Zs h1 (λ _ _ _ q=>q) (Qx hi)).eq
  rw[e3]
  dsimp only
  rw[x3.get hi]
  dsimp only
  rw[if_pos (by omega)]
  have k34:KpB i0 h3 (h3.set i0 (.lst (acc++[v]))):=λ j ob n q=>by
   rw[ZX (ZT n)];exact q
  have k14:KpB i0 h1 (h3.set i0 (.lst (acc++[v]))):=x3.kp.but.trans k34
  refine WR.mono (Jyy i0 mono (acc:=acc++[v]) (by rw[ZU (Qx (x3.get hi))]) (λ h4 q=>hc h4 (k14.trans q)) (by simp;omega) λ y hy h4 q=>he y (Zn _ hy) h4 (k14.trans q)) ?_
  rintro w h5 ⟨rfl,ys,g5,ln,k5,d5⟩
  refine⟨rfl,v::ys,by simpa using g5,by simp[ln],k14.trans k5,?_⟩
  intro i x' y' q1 q2
  cases i with
  | zero =>
   simp only[Zag,ZaB] at q1 q2
   subst q1;subst q2
   exact mono _ _ _ _ (k34.trans k5) dv
  | succ i=>exact d5 i x' y' (by simpa using q1) (by simpa using q2)
theorem Jt2 {h h0:IH}{it:I1}{e:E1}{js:List Nat}{σ:ISt}{xs:List IV}{chk:IH->Prop}(D:IV->IV->IH->Prop)(hit:WR (it σ h0) λ J h1=>J.xs=xs/\J.chk=chk/\h1=h)(hl:xs.length<sizeLine)
  (mono:∀x y h2 h3,KpB h.length h2 h3->D x y h2->D x y h3)(hc:∀h2:IH,Kp h h2->chk h2)
  (he:∀x∈xs,∀h2:IH,Kp h h2->h.length<h2.length->WR (e (Za x::js.map λ j=>(σ[j]?).join) h2) λ v h3=>Ex h2 h3/\D x v h3) :
  WR (Ju it 1 js (gNm 0) J8 e σ h0) λ v h3=>v=.ref h.length/\∃ys,h3[h.length]?=Za (.lst ys)/\ys.length=xs.length/\Kp h h3/\∀(i:Nat) x y,xs[i]?=Za x->ys[i]?=Za y->D x y h3:=by
 obtain⟨J,h1,e1,q1,q2,rfl⟩:=hit.eq
 unfold Ju
 rw[e1]
 show WR (JQ J.chk (gNm 0) J8 e h1.length J.xs (Zc::js.map λ j=>(σ[j]?).join) (h1++[.lst []])) _
 rw[q1,q2]
 have lift:∀{h2:IH},KpB h1.length (h1++[IX.lst []]) h2->Kp h1 h2:=λ q j ob r=>q j ob (Z6 (Qx r)) (grow r)
 refine WR.mono (Jyy h1.length mono (acc:=[]) Jq (λ h2 q=>hc h2 (lift q)) (by simpa using hl) λ x hx h2 q ln=>he x hx h2 (lift q) ln) ?_
 rintro v h3 ⟨rfl,ys,g3,ln,k3,d3⟩
 exact⟨rfl,ys,by simpa using g3,ln,lift k3,d3⟩
section
variable {h:IH}
end
def Jvj (ts:List Zj)(H:Hp):Prop:=∀b,H b=Zc∨(∃o xs,H b=Za (.frz o (.lst xs)))∨(b∈ts/\H b=Za (.tbl #[]))
theorem Jp1 {P:ZA}{w:ZM}{K:W.Frag}{mg mb:Str->Option Ze}{k:Nat}{fa a:Zj}{fd:Zap}{x:Str}{sp:Sp}{s₁:Zk}{vs:List Ze}{ns:List Int}{ts:List Zj}
  (KX:K.In s₁.heap)(hns:s₁.heap.Ns Zm mg)(hb:s₁.heap.Ns Zc5 mb)(hbb:∀x:Str,x≠"__name__"->mb x=Zbv x)(hlim:s₁.heap.NoLimit)(hg:s₁.gens=#[])
  (ha:s₁.heap.get? a=Za { cls:=.type "list",data:=.seq vs.toArray })(hi:Zca vs ns)(hl:ns.length<=sizeLine)(hr:Room k Zex)
  (hT:∀p∈ts,s₁.heap.get? p=Za (W.tabObj #[])/\isCodeTable s₁.heap p/\K.lookup p=Zc)
  (hbm:∃bm ob,mg "__builtins__"=Za (.ref bm)/\bm≠Zc5/\s₁.heap.get? bm=Za ob/\ob.cls=.type "module"/\ob.dict=Za Zc5/\ob.data=.plain)
  (F:∀base:ZZ,K.In base->base.Ns Zm mg->Qs mg base->FnOk P w K mg base (CXI P w) k fa fd [x] sp)(hbind:∀(s:Zk)(u:Ze),Zc0 s fd ⟨[u],[]⟩ [(x,u)])
  (hsp:∀H:Hp,Jvj ts H->SqL K H a (ns.map V.int)->(∀p∈ts,H p=Za (.tbl #[]))->sp [.ref a] H (λ v _=>v=.bl Zd) λ _ _ _=>False) :
  ZbZ (Z3 P w) Zex (.call (.ref fa) ⟨[.ref a],[]⟩) (λ r s'=>r=.ok (.ret (.bool Zd))/\OldK s₁.heap s'.heap/\s'.os=s₁.os/\Zdn s'.gens) s₁:=by
 have rv:=L2.Xu hi
 have lenV:=hi.length
 have nta:a∉ts:=λ z=>by
  have e:=(hT a z).1
  rw[ha] at e
  have e':=Zad e
  injection e' with h1
  cases h1
 have core:∀H:Hp,Jvj ts H->SqL K H a (ns.map V.int)->HOk P w H s₁.heap->(∀b,H b≠Zc->b=a∨b∈ts)->(H a≠Zc->K.lookup a=Zc)->(∀p∈ts,H p=Za (.tbl #[])) ->
   ZbZ (Z3 P w) Zex (.call (.ref fa) ⟨[.ref a],[]⟩) (λ r s'=>r=.ok (.ret (.bool Zd))/\OldK s₁.heap s'.heap/\s'.os=s₁.os/\Zdn s'.gens) s₁:=by
  intro H hO hS hok hA hK hTt
  have base_of:∀{b:Zj}{o:Obj},s₁.heap.get? b=Za o->H b=Zc->(hidT s₁.heap H).get? b=Za o:=λ e n=>Jsh e n
  have noA:∀{b:Zj}{o:Obj},s₁.heap.get? b=Za o->(∀vs n,o.data≠.seq vs n)->(∀vs,o.data≠.fields vs)->H b=Zc:=λ {b o} e d1 d2=>by
   cases q:H b with
   | none=>rfl
   | some u =>
    rcases hA b (by rw[q];simp) with e'|e'
    ·subst e'
     rw[ha] at e;cases e
     exact absurd rfl (d1 _ _)
    ·rw[(hT b e').1] at e;cases e
     exact absurd rfl (d2 _)
  have nsK:∀{b:Zj}{m:Str->Option Ze},s₁.heap.Ns b m->(hidT s₁.heap H).Ns b m:=λ {b m} ⟨o,es,ep,e,d,r⟩=>⟨o,es,ep,base_of e (noA e (λ _ _ z=>by rw[d] at z;cases z) λ _ z=>by rw[d] at z;cases z),d,r⟩
  have hKb:K.In (hidT s₁.heap H):=λ b o e=>base_of (KX b o e) (by
   cases q:H b with
   | none=>rfl
   | some u =>
    rcases hA b (by rw[q];simp) with e'|e'
    ·subst e'
     rw[hK (by rw[q];simp)] at e;cases e
    ·rw[(hT b e').2.2] at e;cases e)
  have hM:Mod K mg (hidT s₁.heap H):=⟨hKb,nsK hns,⟨mb,nsK hb,hbb⟩,let ⟨mc,h1,h2⟩:=hlim;⟨mc,nsK h1,h2⟩⟩
  have hB:Qs mg (hidT s₁.heap H):=by
   obtain⟨bm,ob,b1,b2,b3,b4,b5,b6⟩:=hbm
   refine⟨bm,ob,b1,b2,λ z=>?_,base_of b3 (noA b3 (λ _ _ z=>by rw[b6] at z;cases z) λ _ z=>by rw[b6] at z;cases z),b4,b5,b6⟩
   obtain⟨o,es,ep,e,d,_⟩:=hns
   rw[<- z,b3] at e
   cases e
   rw[b6] at d
   cases d
  have e0:Env0 P w K mg (hidT s₁.heap H) Zex [] s₁ H:=⟨rfl,hM,λ b o e=>Jw5 e,ZcJ (Jpm _ _),trivial,λ b hb=>absurd (show b∈([]:List Zj) from hb) (by simp),hok,.of_eq hg⟩
  refine ZbS ((F _ hKb (nsK hns) hB).run Zex [] s₁ H ⟨[.ref a],[]⟩ [.ref a] [.ref a] _ _ hr e0 (hbind s₁ (.ref a)) (.cons rfl .nil) (hsp H hO hS hTt)) λ r s' h=>?_
  cases r with
  | error e=>exact h.elim λ _ z=>z.2.2.2.2.elim
  | ok fl =>
   cases fl with
   | next=>exact Za9 h
   | brk=>exact Za9 h
   | cont=>exact Za9 h
   | ret u =>
    obtain⟨v,H',os,bare,un,hok',r',q⟩:=h
    have q':v=.bl Zd:=q
    subst q'
    obtain rfl:u=Zc3 Zd:=r'
    have main:∀b o,s₁.heap.get? b=Za o->asItWas s₁.heap s'.heap b o/\∃o',s'.heap.get? b=Za o':=λ b o e=>by
     rcases hO b with z|⟨ob,xs,z⟩|⟨hb,z⟩
     ·have:=un.keep b o e z (by intro z;exact absurd (show b∈([]:List Zj) from z) (by simp)) (by simp)
      exact⟨.inl this,_,this⟩
     ·have z2:=un.frzs b ob _ z
      obtain⟨e1,_⟩:=hok b _ z
      obtain⟨e2,_⟩:=hok' b _ z2
      rw[e] at e1;cases e1
      exact⟨.inl e2,_,e2⟩
     ·obtain⟨more,z2⟩:=un.tbls b _ z
      have e2:=hok' b _ z2
      have e1:=(hT b hb).1
      rw[e] at e1
      cases e1
      exact⟨.inr (.inl ⟨(hT b hb).2.1,rfl,#[],more,rfl,e2⟩),_,e2⟩
    exact⟨rfl,⟨λ b o e=>(main b o e).1,λ b o e=>(main b o e).2⟩,os,bare⟩
 cases hk:K.lookup a with
 | some o =>
  have e:=KX a o hk
  rw[ha] at e
  cases e
  refine core (λ b=>if b∈ts then Za (.tbl #[]) else Zc) (λ b=>?_) (.inr ⟨_,vs.toArray,_,hk,rfl,rfl,rfl,by rw[Z2,lenV];exact hl,by simpa using rv⟩) (λ b u z=>?_) (λ b z=>?_) (λ z=>absurd (if_neg nta) z) λ p hp=>if_pos hp
  ·by_cases hb:b∈ts
   ·exact .inr (.inr ⟨hb,if_pos hb⟩)
   ·exact .inl (if_neg hb)
  ·by_cases hb:b∈ts
   ·have z':=(if_pos hb).symm.trans z
    cases z'
    exact(hT b hb).1
   ·have z':=(if_neg hb).symm.trans z
    cases z'
  ·by_cases hb:b∈ts
   ·exact .inr hb
   ·exact absurd (if_neg hb) z
 | none =>
  refine core (λ b=>if b=a then Za (.frz { cls:=.type "list",data:=.seq vs.toArray } (.lst (ns.map V.int))) else if b∈ts then Za (.tbl #[]) else Zc) (λ b=>?_) (.inl (.inr ⟨{ cls:=.type "list",data:=.seq vs.toArray },if_pos rfl⟩)) (λ b u z=>?_) (λ b z=>?_) (λ _=>hk) λ p hp=>?_
  ·by_cases hb:b=a
   ·exact .inr (.inl ⟨_,_,if_pos hb⟩)
   ·by_cases hc:b∈ts
    ·exact .inr (.inr ⟨hc,(if_neg hb).trans (if_pos hc)⟩)
    ·exact .inl ((if_neg hb).trans (if_neg hc))
  ·by_cases hb:b=a
   ·have z':=(if_pos hb).symm.trans z
    cases z'
    subst hb
    exact⟨ha,by rw[Zp];exact hl,vs,_,rv,ha⟩
   ·by_cases hc:b∈ts
    ·have z':=((if_neg hb).trans (if_pos hc)).symm.trans z
     cases z'
     exact(hT b hc).1
    ·have z':=((if_neg hb).trans (if_neg hc)).symm.trans z
     cases z'
  ·by_cases hb:b=a
   ·exact .inl hb
   ·by_cases hc:b∈ts
    ·exact .inr hc
    ·exact absurd ((if_neg hb).trans (if_neg hc)) z
  ·have hb:p≠a:=λ z=>nta (z▸hp)
   exact(if_neg hb).trans (if_pos hp)
def Jr0 (o:Obj)(q:Str):Bool:=match o with
 | ⟨_,_,.fields vs,_⟩=>(match vs.toList with|_::.str n _::_=>n==q|_=>Zh)
 | _=>Zh
def QF (K:W.Frag)(q:Str)(p:Zj):Bool:=(K.lookup p).isNone&&K.all (λ e=>!(Jr0 e.2 q)||W.codeHdIn K e.1 p)&&K.any (λ e=>Jr0 e.2 q&&W.codeHdIn K e.1 p)
def QJ (K:W.Frag):List Str->List Zj->Bool
 | [],[]=>Zd
 | q::qs,p::ps=>QF K q p&&!ps.contains p&&QJ K qs ps
 | _,_=>Zh
theorem Jno {K:W.Frag}{c:Zj}{o:Obj}(h:K.lookup c=Za o):(c,o)∈K:=by
 induction K with
 | nil=>cases h
 | cons p K ih =>
  obtain⟨b,o'⟩:=p
  rw[Zab] at h
  split at h
  ·rename_i e
   cases h
   rw[beq_iff_eq.mp e]
   exact Zs
  ·exact Zn _ (ih h)
theorem QF.code {K:W.Frag}{q:Str}{p:Zj}(h:QF K q p=Zd):∀cdv,W.codeIn K cdv q=Zd->∃c,cdv=.ref c/\W.codeHdIn K c p=Zd:=by
 simp only[QF,Zl,ZbO,Za4,ZaO] at h
 intro cdv e
 unfold W.codeIn at e
 split at e
 ·rename_i c
  refine⟨c,rfl,?_⟩
  cases hk:K.lookup c with
  | none=>rw[hk] at e;cases e
  | some o =>
   rw[hk] at e
   rcases h.1.2 _ (Jno hk) with z|z
   ·exfalso
    have e':Jr0 o q=Zd:=by
     obtain⟨oc,od,dt,sl⟩:=o
     cases dt<;>first|exact e|cases e
    have z':Jr0 o q=Zh:=z
    rw[e'] at z'
    cases z'
   ·exact z
 ·cases e
theorem QF.some {K:W.Frag}{q:Str}{p:Zj}(h:QF K q p=Zd):K.lookup p=Zc/\∃c,W.codeHdIn K c p=Zd:=by
 simp only[QF,Zl,ZbR,Option.isNone_iff_eq_none] at h
 obtain⟨⟨h1,_⟩,e,_,h2⟩:=h
 exact⟨h1,e.1,h2.2⟩
theorem QJ.mem {K:W.Frag}:∀{qs:List Str}{ts:List Zj},QJ K qs ts=Zd->ts.Nodup/\qs.length=ts.length/\(∀(i:Nat)(q:Str),qs[i]?=Za q->∃p,ts[i]?=Za p/\QF K q p=Zd)/\∀p∈ts,∃q,QF K q p=Zd
 | [],[],_=>⟨.nil,rfl,λ i q e=>by simp at e,λ p hp=>by cases hp⟩
 | q::qs,p::ps,h=>by
  simp only[QJ,Zl,ZaO,List.contains_eq_mem,decide_eq_false_iff_not] at h
  obtain⟨⟨h1,h2⟩,h3⟩:=h
  obtain⟨a,b,c,d⟩:=QJ.mem h3
  refine⟨Zbd.mpr ⟨h2,a⟩,by simp[b],λ i r e=>?_,λ r hr=>?_⟩
  ·cases i with
   | zero =>
    have e':Za q=Za r:=e
    cases e'
    exact⟨p,rfl,h1⟩
   | succ i=>exact c i r e
  ·rcases ZH.mp hr with rfl|hr
   ·exact⟨q,h1⟩
   ·exact d r hr
 | [],_::_,h=>by cases h
 | _::_,[],h=>by cases h
theorem Jnl {K:W.Frag}{x:Str}{f:List IV->IH->Res IV}{H:Hp}{a:Zj}{ns:List Int}{qs:List Str}{ts:List Zj}(hO:Jvj ts H)(hS:SqL K H a (ns.map V.int))(hT:∀p∈ts,H p=Za (.tbl #[]))(hc:QJ K qs ts=Zd)
  (hf:∃h',f [.rol (ns.map IV.int)] (qs.map IX.tab)=.ok (.bl Zd) h'):Xp K x f [.ref a] H (λ v _=>v=.bl Zd) λ _ _ _=>False:=by
 intro ce
 obtain⟨h',hf⟩:=hf
 have sr:SqR K H a (ns.map V.int):=by
  rcases hS with(h|⟨o,h⟩)|h
  ·rcases hO a with z|⟨ob,xs,z⟩|⟨_,z⟩
   ·rw[z] at h;cases h
   ·rw[z] at h;cases h
   ·rw[z] at h;cases h
  ·exact .inl ⟨o,h⟩
  ·exact .inr h
 obtain⟨nd,le,at_,_⟩:=QJ.mem hc
 refine⟨rfl,ts,qs.map IX.tab,[.rol (ns.map IV.int)],⟨by simp[le],nd,λ i o e=>?_⟩,⟨.ref a,[],rfl,⟨a,_,rfl,sr,RVs.ints ns⟩,rfl⟩,?_⟩
 ·rw[Z7] at e
  cases eq:qs[i]? with
  | none=>rw[eq] at e;cases e
  | some q =>
   rw[eq] at e
   cases e
   obtain⟨p,ep,hp⟩:=at_ i q eq
   exact⟨p,ep,QF.code hp,#[],hT p (Zcg ep),trivial,λ pos cv z=>by cases z⟩
 ·rw[hf]
  intro v H' ι' _ _ q
  exact q
theorem Jt1 {l:W.OpenLaw}{n k:Nat}{q:ZA}{loose:List Str}{XP:(Str->Option Ze)->ZZ->Prop}{YP:ZM->ZZ->Prop}{d:DefRec}{K:Params->W.Frag}{f:List IV->IH->Res IV}{x:Str}{qs:List Str}{ts:List Zj}
  (hn:l.most=Za n)(hn2:n<=sizeLine)(hdf:d.params.defaults=[])(hr:Room k Zex)
  (hY:∀(w:ZM)(h:ZZ),YP w h->(K w.params).In h/\∀p∈ts,h.get? p=Za (W.tabObj #[]))(hc:∀w:ZM,QJ (K w.params) qs ts=Zd)
  (F:∀(w:ZM)(mg:Str->Option Ze)(fa:Zj)(h:ZZ),(K w.params).In h->h.Ns Zm mg->mg d.name=Za (.ref fa) ->
   ∃fd:Zap,(∀(s:Zk)(u:Ze),Zc0 s fd ⟨[u],[]⟩ [(x,u)]) /\
    ∀base:ZZ,(K w.params).In base->base.Ns Zm mg->Qs mg base->FnOk l.prog w (K w.params) mg base (CXI l.prog w) k fa fd [x] (Xp (K w.params) x f))
  (hf:∀ns:List Int,ns.length<=n->∃h',f [.rol (ns.map IV.int)] (qs.map IX.tab)=.ok (.bl Zd) h') :
  W.WalkO q loose XP YP l.row.toRowW d [] (λ f vs=>PySem.call f vs):=by
 refine Att.attach_call hn hdf λ w s₀ s₁ mg mb fa o pm cd doc a vs ns G Y ho hd hcd hmg hobj hints hlen hg=>?_
 obtain⟨KX,hT⟩:=hY w _ Y
 obtain⟨fd,hb,hF⟩:=F w mg fa _ KX G.T.g hmg
 refine Jp1 KX G.T.g G.T.b G.T.builtins G.T.nolimit hg hobj hints (Zal hlen hn2) hr (λ p hp=>?_) G.T.bmain hF hb λ H hO hS hTt=>Jnl hO hS hTt (hc w) (hf ns hlen)
 obtain⟨q,hq⟩:=(QJ.mem (hc w)).2.2.2 p hp
 obtain⟨h1,c,h2⟩:=QF.some hq
 exact⟨hT p hp,((W.codeHd_of_K KX h2).tab (hT p hp)).isCodeTable,h1⟩
def Qn (kf:IV->Int):IV->List IV->IV
 | b,[]=>b
 | b,y::r=>if kf y>kf b then Qn kf y r else Qn kf b r
theorem Jeu (kf:IV->Int):∀(r:List IV)(b:IV),Qn kf b r=b∨Qn kf b r∈r
 | [],b=>.inl rfl
 | y::r,b=>by
  unfold Qn
  split
  ·rcases Jeu kf r y with e|e
   ·rw[e];exact .inr Zs
   ·exact .inr (Zn _ e)
  ·rcases Jeu kf r b with e|e
   ·exact .inl e
   ·exact .inr (Zn _ e)
theorem Jf5 (kf:IV->Int):∀(r:List IV)(b:IV),kf b<=kf (Qn kf b r)/\∀y∈r,kf y<=kf (Qn kf b r)
 | [],b=>⟨Zbm _,λ y hy=>by cases hy⟩
 | y::r,b=>by
  unfold Qn
  split
  ·rename_i h
   obtain⟨h1,h2⟩:=Jf5 kf r y
   exact⟨by omega,λ z hz=>by
    rcases ZH.mp hz with rfl|hz
    ·exact h1
    ·exact h2 z hz⟩
  ·rename_i h
   obtain⟨h1,h2⟩:=Jf5 kf r b
   exact⟨h1,λ z hz=>by
    rcases ZH.mp hz with rfl|hz
    ·omega
    ·exact h2 z hz⟩
theorem Jgs {mk:IV->IH->Res IV}{kf:IV->Int}{i:Nat}{ys:List IV}{h0:IH}(hi:h0[i]?=Za (.lst ys))(hm:∀y∈ys,∀h,Ex h0 h->WR (mk y h) λ v h'=>v=.int (kf y)/\Ex h h') :
  ∀(r:Nat)(b:IV)(h:IH),Ex h0 h->r<=ys.length->WR (QN gtZ mk i ys.length r b (.int (kf b)) h) λ v h'=>v=Qn kf b (ys.drop (ys.length-r))/\Ex h h'
 | 0,b,h,x,_=>by
  unfold QN
  rw[x.get hi]
  dsimp only
  rw[if_pos rfl]
  refine⟨?_,.refl _⟩
  rw[Nat.sub_zero,ZdU]
  rfl
 | r+1,b,h,x,hr=>by
  unfold QN
  rw[x.get hi]
  dsimp only
  rw[if_pos rfl]
  have hlt:ys.length-(r+1)<ys.length:=by omega
  rw[Zb hlt]
  dsimp only
  have hd:ys.drop (ys.length-(r+1))=ys[ys.length-(r+1)]::ys.drop (ys.length-r):=by
   rw[Zay hlt,show ys.length-(r+1)+1=ys.length-r by omega]
  obtain⟨v,h2,e,rfl,x2⟩:=(hm _ (ZI hlt) h x).eq
  rw[e,hd]
  show WR (match gtZ (.int (kf ys[ys.length-(r+1)])) (.int (kf b)) with|some Zd=>_|some Zh=>_|none=>_) _
  unfold gtZ
  dsimp only
  unfold Qn
  by_cases hb:kf ys[ys.length-(r+1)]>kf b
  ·rw[decide_eq_true hb,if_pos hb]
   exact WR.mono (Jgs hi hm r _ h2 (x.trans x2) (by omega)) λ v h' ⟨a,c⟩=>⟨a,x2.trans c⟩
  ·rw[decide_eq_false hb,if_neg hb]
   exact WR.mono (Jgs hi hm r _ h2 (x.trans x2) (by omega)) λ v h' ⟨a,c⟩=>⟨a,x2.trans c⟩
def XF (kf:IV->Int)(d:IV):List IV->IV
 | []=>d
 | y::r=>Qn kf y r
theorem Jt5 {mk:IV->IH->Res IV}{kf:IV->Int}{i:Nat}{ys:List IV}{h:IH}{d:IV}(hi:h[i]?=Za (.lst ys))(hm:∀y∈ys,∀h',Ex h h'->WR (mk y h') λ v h2=>v=.int (kf y)/\Ex h' h2) :
  WR (Xf gtZ mk i d h) λ v h'=>v=XF kf d ys/\Ex h h':=by
 unfold Xf
 rw[hi]
 dsimp only
 cases ys with
 | nil=>exact⟨rfl,.refl _⟩
 | cons y r =>
  obtain⟨v,h2,e,rfl,x2⟩:=(hm y Zs h (.refl _)).eq
  show WR ((mk y h).nx.bind λ k h'=>QN gtZ mk i (y::r).length ((y::r).length-1) y k h') _
  rw[e]
  have:=Jgs (kf:=kf) (x2.get hi) (λ z hz h' x=>hm z hz h' (x2.trans x)) ((y::r).length-1) y h2 (.refl _) (by simp)
  refine WR.mono this λ v h' ⟨a,c⟩=>⟨?_,x2.trans c⟩
  rw[a]
  simp[XF]
section
variable {α β:Type}{σ:ISt}{h:IH}
def WE (r:Res α)(Q:α->IH->Prop)(Z:Nat->IH->Prop):Prop:=match r with
 | .ok a h=>Q a h
 | .exc n h=>Z n h
 | .stuck=>False
def WSE (r:SRes)(N:ISt->IH->Prop)(R:IV->IH->Prop)(Z:Nat->ISt->IH->Prop):Prop:=match r with
 | .next σ h=>N σ h
 | .ret v h=>R v h
 | .exc n σ h=>Z n σ h
 | _=>False
variable {Q:α->IH->Prop}{Z:Nat->IH->Prop}{N:ISt->IH->Prop}{R:IV->IH->Prop}{Y:Nat->ISt->IH->Prop}
theorem J2z (a:α):WE (.ok a h) Q Z=Q a h:=rfl
theorem Jx1 {Q:β->IH->Prop}(r:Res α)(f:α->IH->Res β):WE (r.bind f) Q Z=WE r (λ a h=>WE (f a h) Q Z) Z:=by cases r<;>rfl
theorem WE.of {r:Res α}(w:WR r Q):WE r Q Z:=by
 cases r with
 | ok a h=>exact w
 | exc n h=>exact Zf w
 | stuck=>exact Zf w
theorem WE.mono {r:Res α}{Q':α->IH->Prop}{Z':Nat->IH->Prop}(w:WE r Q Z)(hq:∀a h,Q a h->Q' a h)(hz:∀n h,Z n h->Z' n h):WE r Q' Z':=by
 cases r with
 | ok a h=>exact hq _ _ w
 | exc n h=>exact hz _ _ w
 | stuck=>exact w
theorem WE.wr {r:Res α}(w:WE r Q λ _ _=>False):WR r Q:=by
 cases r with
 | ok a h=>exact w
 | exc n h=>exact w
 | stuck=>exact w
theorem WSE.of {r:SRes}(w:WS r N R):WSE r N R Y:=by
 cases r with
 | next σ h=>exact w
 | ret v h=>exact w
 | _=>exact Zf w
theorem Jm0 (r:Res α)(k:α->IH->SRes):WSE (rS σ r k) N R Y=WE r (λ a h=>WSE (k a h) N R Y) λ n h=>Y n σ h:=by cases r<;>rfl
theorem VV (a b:S1):WSE (Je a b σ h) N R Y=WSE (a σ h) (λ σ1 h1=>WSE (b σ1 h1) N R Y) R Y:=by
 unfold Je;cases a σ h<;>rfl
theorem Jyo:WSE (Jv σ h) N R Y=N σ h:=rfl
theorem Jlj (i:Nat)(e:E1):WSE (Jk i e σ h) N R Y=WE (e σ h) (λ v h1=>N (σ.set i (Za v)) h1) λ n h=>Y n σ h:=by unfold Jk;rw[Jm0];rfl
theorem Jub (e:E1):WSE (JO e σ h) N R Y=WE (e σ h) (λ _ h1=>N σ h1) λ n h=>Y n σ h:=by unfold JO;rw[Jm0];rfl
theorem Jvh (t:T1)(a b:S1):WSE (sIf t a b σ h) N R Y=WE (t σ h) (λ c h1=>(c=Zd->WSE (a σ h1) N R Y)/\(c=Zh->WSE (b σ h1) N R Y)) λ n h=>Y n σ h:=by
 unfold sIf;rw[Jm0];congr 1;funext c h1;cases c<;>simp
theorem Jq5 {Q:IV->IH->Prop}(f:List IV->IH->Res IV)(d:List IV)(a:A1):WE (Jn f d a σ h) Q Z=WE (a σ h) (λ vs h1=>WE (f (vs++d) h1) Q Z) Z:=by unfold Jn;rw[Jx1]
theorem J1d {Q:IV->IH->Prop}{r:SRes}(w:WSE r (λ _ h=>Q .non h) Q λ n _ h=>(∃c fs,h[n]?=Za (.exc c fs))/\Z n h):WE r.fin Q Z:=by
 cases r with
 | next σ h=>exact w
 | ret v h=>exact w
 | exc n σ h =>
  obtain⟨⟨c,fs,e⟩,z⟩:=w
  rw[Jv2 e]
  exact z
 | _=>exact Zf w
theorem J1g (b:S1)(hs:List HdI)(w:WSE (b σ h) N R λ n σ1 h1=>∃c fs,h1[n]?=Za (.exc c fs)/\WS (Vv hs c n σ1 h1) N R):WS (sTry b hs σ h) N R:=by
 unfold sTry
 cases e:b σ h with
 | next σ1 h1=>rw[e] at w;exact w
 | ret v h1=>rw[e] at w;exact w
 | exc n σ1 h1 =>
  rw[e] at w
  obtain⟨c,fs,e1,w⟩:=w
  dsimp only
  rw[e1]
  exact w
 | _=>rw[e] at w;exact Zf w
theorem Jyl (sl:Option Nat)(r:SRes):WS (r.drop sl) N R=WS r (λ σ h=>N (VI sl Zc σ) h) R:=by
 unfold SRes.drop;cases r<;>rfl
theorem J21 {g:Str->Option Bool}{sl:Option Nat}{m:S1}{r:List HdI}{c:Str}{n:Nat}(e:g c=Za Zd):WS (Vv ((g,sl,m)::r) c n σ h) N R=WS (m (VI sl (Za (.ref n)) σ) h) (λ σ h=>N (VI sl Zc σ) h) R:=by
 unfold Vv;dsimp only;rw[e];dsimp only;rw[Jyl]
theorem J07 {n:Nat}{c:Str}{fs:List (Str×IV)}(e:h[n]?=Za (.exc c fs)):tyI (.ref n) h=Za (.exc c):=by simp[tyI,e]
end
section
variable {mk:IV->IH->Res IV}{kf:IV->List Int}{i n:Nat}{ys:List IV}
end
end L4
namespace LW
theorem Kaz {α:Sort _}{p:α->Prop}{a':α}:(∃a,a'=a/\p a)↔p a':=exists_eq_left'
theorem Kbz {α:Sort _}{p:α->Prop}{a':α}:(∃a,a=a'/\p a)↔p a':=exists_eq_left
theorem Kcz (a b:Bool):(L3.IV.bl a=L3.IV.bl b)=(a=b):=L3.IV.bl.injEq a b
theorem Kdz (a b:Int):(L3.IV.int a=L3.IV.int b)=(a=b):=L3.IV.int.injEq a b
theorem Kez (a b:Nat):(L3.IV.ref a=L3.IV.ref b)=(a=b):=L3.IV.ref.injEq a b
theorem Kfz (a b:PySem.Str):(L3.IV.str a=L3.IV.str b)=(a=b):=L3.IV.str.injEq a b
theorem Kgz (a b:List L3.IV):(L3.IV.tup a=L3.IV.tup b)=(a=b):=L3.IV.tup.injEq a b
theorem Khz (a b:List L3.IV):(L3.IX.lst a=L3.IX.lst b)=(a=b):=L3.IX.lst.injEq a b
theorem Kiz {α:Type _}(a b:α):(Za a=Za b)=(a=b):=ZaB a b
theorem Kjz:(!true)=Zh:=Zcw
theorem Kkz:(!false)=Zd:=Zcj
theorem Klz:(Zd=Zh)=False:=Zb5
theorem Kmz:(Zh=Zd)=False:=Zac
theorem Knz {α β:Type _}(a:α)(f:α->Option β):(Za a).bind f=f a:=Zb3 a f
theorem Koz (p:Prop):(True->p)=p:=true_implies p
theorem Kpz (p:Prop):(False->p)=True:=false_implies p
theorem Kqz (α:Sort _):(α->True)=True:=implies_true α
theorem Krz {α:Type _}{a b:α}{l:List α}{n:Nat}:(a::l).set (n+1) b=a::l.set n b:=Zc9
theorem Ksz {α:Type _}{a b:α}{l:List α}:(a::l).set 0 b=b::l:=Zb4
theorem Ktz {α:Type _}{a:α}{l m:List α}:(a::l)++m=a::(l++m):=ZS
theorem Kuz {α:Type _}(l:List α):[]++l=l:=Za3 l
theorem Kvz {α:Type _}(l:List α):l++[]=l:=Za2 l
end LW
namespace LW
open PySem L2 L3 L4
noncomputable def top (i:Nat):Zb2:=PySem.Challenge.pw_dutyproof_k71_ranks_found.main.body.getD i (.Pass ⟨0,0,0,0⟩)
def Jag:D4:=⟨Vw (top 8) 0,"NoRanks.__init__",["self","stuck"],["self","stuck"],[]⟩
def Jc2:D4:=⟨top 10,"is_whole",["thing"],["thing"],[]⟩
def Jae:D4:=⟨top 11,"is_whole_from",["thing","least"],["thing","least"],[]⟩
def Jby:D4:=⟨top 12,"rounds_up",["top","bottom"],["top","bottom"],[]⟩
def Jee:D4:=⟨top 19,"is_name",["thing"],["thing"],[]⟩
def Jed:D4:=⟨top 20,"is_hold",["hold","length"],["hold","length"],[]⟩
def Jbv:D4:=⟨top 21,"lie_apart",["one","other"],["one","other"],[]⟩
def Jef:D4:=⟨top 22,"lies_in",["one","other"],["one","other"],[]⟩
def Jat:D4:=⟨top 23,"go_together",["one","other"],["one","other"],[]⟩
def Jaa:D4:=⟨top 24,"all_go_together",["holds"],["holds","place","hold"],[]⟩
def Jbw:D4:=⟨top 25,"own_holds",["holds","length"],["holds","length"],[]⟩
def Jeg:D4:=⟨top 26,"own_due",["due","gap"],["due","gap"],[]⟩
def Qh:D4:=⟨Vw (top 27) 0,"Work.__init__",["self","name","gap","length","due","late","holds"],["self","name","gap","length","due","late","holds"],[.non,.int 0,.non]⟩
def Jbr:D4:=⟨Vw (top 27) 1,"Work.held",["self"],["self"],[]⟩
def Jc0:D4:=⟨top 29,"ceilings",["duty"],["duty","found","at","hold"],[]⟩
def Ja9:D4:=⟨top 30,"turns_held",["hold"],["hold"],[]⟩
def Jah:D4:=⟨top 31,"longest_hold",["duty","at"],["duty","at","tops","found","weaker"],[]⟩
def Jeb:D4:=⟨top 32,"hold_up",["duty","at"],["duty","at","longest"],[]⟩
def Ja7:D4:=⟨top 34,"comings_in",["work","span"],["work","span"],[]⟩
def Jls:D4:=⟨top 35,"load",["duty","at","span"],["duty","at","span","stronger","asked_ahead"],[]⟩
def Jec:D4:=⟨top 36,"in_time",["work","line"],["work","line"],[]⟩
def Jfh:D4:=⟨top 37,"answer",["duty","at"],["duty","at","line","least"],[]⟩
def Jad:D4:=⟨top 39,"may_be_weakest",["duty","left","weaker","at"],["duty","left","weaker","at","stronger"],[]⟩
def Jai:D4:=⟨top 40,"some_weakest",["duty","left","weaker"],["duty","left","weaker","at"],[]⟩
def Jfi:D4:=⟨top 41,"ranked",["duty"],["duty","left","weaker","at"],[]⟩
def Jbx:D4:=⟨top 45,"own_works",["works"],["works"],[]⟩
def Jc1:D4:=⟨top 46,"crowd_of",["works"],["works","greatest"],[]⟩
def Jbo:D4:=⟨Vw (top 47) 0,"Duty.__init__",["self","works"],["self","works"],[]⟩
def Jbp:D4:=⟨Vw (top 47) 1,"Duty.size",["self"],["self"],[]⟩
def Jbq:D4:=⟨Vw (top 47) 2,"Duty.work",["self","at"],["self","at"],[]⟩
def Jcx:D4:=⟨Vw (top 47) 4,"Duty.crowd",["self"],["self"],[]⟩
def Jac:D4:=⟨Vw (top 47) 5,"Duty.reordered",["self","places"],["self","places"],[]⟩
def Ja8:D4:=⟨top 49,"_law_stream",["_law_cell","_law_many"],["_law_cell","_law_many","_law_found","_law_rest","_law_k","_law_number"],[]⟩
def Jbs:D4:=⟨top 50,"_law_holds",["_law_xs","_law_length"],["_law_xs","_law_length","_law_found","_law_start","_law_end"],[]⟩
def Jbt:D4:=⟨top 51,"_law_plain",["_law_cell","_law_unit","_law_many"],["_law_cell","_law_unit","_law_many","_law_xs","_law_gap","_law_length","_law_last","_law_late"],[]⟩
def Jau:D4:=⟨top 52,"_law_held_up",["_law_some","_law_at"],["_law_some","_law_at","_law_most","_law_one","_law_thing","_law_start","_law_end","_law_strong"],[]⟩
def Jav:D4:=⟨top 53,"_law_in_time",["_law_some","_law_at"],["_law_some","_law_at","_law_gap","_law_length","_law_last","_law_late","_law_holds_here","_law_least","_law_line","_law_other"],[]⟩
def Jab:D4:=⟨top 54,"_law_all_in_time",["_law_some","_law_order"],["_law_some","_law_order","_law_turned"],[]⟩
def Jc3:D4:=⟨top 55,"_law_told",["_law_duty"],["_law_duty","_law_found","e","_law_some"],[]⟩
def Jbu:D4:=⟨top 56,"_law_right",["_law_found","_law_some"],["_law_found","_law_some","_law_here"],[]⟩
def Q8:D4:=⟨top 57,"law",["_law_script"],["_law_script","_law_first","_law_unit","_law_cells","_law_some","_law_works","_law_k","_law_gap","_law_length","_law_last","_law_late","_law_holds_here","_law_duty","_law_found"],[]⟩
def T:Tab where
 fns:=[(("is_whole":Str),Jc2),(("is_whole_from":Str),Jae),(("rounds_up":Str),Jby),(("is_name":Str),Jee),(("is_hold":Str),Jed),(("lie_apart":Str),Jbv),(("lies_in":Str),Jef),(("go_together":Str),Jat),(("all_go_together":Str),Jaa),(("own_holds":Str),Jbw),(("own_due":Str),Jeg),(("ceilings":Str),Jc0),(("turns_held":Str),Ja9),(("longest_hold":Str),Jah),(("hold_up":Str),Jeb),(("comings_in":Str),Ja7),(("load":Str),Jls),(("in_time":Str),Jec),(("answer":Str),Jfh),(("may_be_weakest":Str),Jad),(("some_weakest":Str),Jai),(("ranked":Str),Jfi),(("own_works":Str),Jbx),(("crowd_of":Str),Jc1),(("_law_stream":Str),Ja8),(("_law_holds":Str),Jbs),(("_law_plain":Str),Jbt),(("_law_held_up":Str),Jau),(("_law_in_time":Str),Jav),(("_law_all_in_time":Str),Jab),(("_law_told":Str),Jc3),(("_law_right":Str),Jbu),(("law":Str),Q8)]
 clss:=[("Work",Qh),("Duty",Jbo)]
 meths:=[("Work",([("held",Jbr)]:List (Str×D4))),("Duty",([("size",Jbp),("work",Jbq),("crowd",Jcx),("reordered",Jac)]:List (Str×D4)))]
 cons:=[("MOST_LETTERS",.int 8),("MOST_HOLDS",.int 6),("THING",.int 0),("START",.int 1),("END",.int 2),("MOST_WORKS",.int 12),("MOST_CROWD",.int 80)]
 isas:=[("Work",["Work"])]
 flds:=["append","at","due","extend","gap","hold_tuples","late","length","name","remove","setdefault","works"]
 frees:=["all","bool","enumerate","int","isinstance","len","list","max","min","range","reversed","set","sorted","str","sum","tuple"]
 tabs:=["_law_right","longest_hold"]
 razs:=["BadWork","BadDuty","TooMany"]
 xis:=[("NoRanks",[("BadWork",Zh),("BadDuty",Zh),("TooMany",Zh),("NoRanks",Zd)]),("NotKept",[("BadWork",Zh),("BadDuty",Zh),("TooMany",Zh),("NoRanks",Zh)]),("BadDuty",[("BadWork",Zh),("BadDuty",Zd),("TooMany",Zh),("NoRanks",Zh)]),("TooMany",[("BadWork",Zh),("BadDuty",Zh),("TooMany",Zd),("NoRanks",Zh)]),("HoldsThings",[("BadWork",Zh),("BadDuty",Zh),("TooMany",Zh),("NoRanks",Zh)]),("DutyError",[("BadWork",Zd),("BadDuty",Zd),("TooMany",Zd),("NoRanks",Zd)]),("ValueError",[("BadWork",Zd),("BadDuty",Zd),("TooMany",Zd),("NoRanks",Zd)])]
 xms:=[(("NoRanks":Str),Jag)]
 xfs:=[(("stuck":Str),["NoRanks"])]
 xbs:=["DutyError"]
def Jhn:Str->Option Bool:=λ c=>J9 c [("BadWork",Zh),("BadDuty",Zh),("TooMany",Zh),("NoRanks",Zd)]
def Jho:Str->Option Bool:=λ c=>J9 c [("BadWork",Zh),("BadDuty",Zh),("TooMany",Zh),("NoRanks",Zh)]
def Jhm:Str->Option Bool:=λ c=>J9 c [("BadWork",Zh),("BadDuty",Zd),("TooMany",Zh),("NoRanks",Zh)]
def Jhp:Str->Option Bool:=λ c=>J9 c [("BadWork",Zh),("BadDuty",Zh),("TooMany",Zd),("NoRanks",Zh)]
def Jc8:Str->Option Bool:=λ c=>J9 c [("BadWork",Zh),("BadDuty",Zh),("TooMany",Zh),("NoRanks",Zh)]
def Jfa:Str->Option Bool:=λ c=>J9 c [("BadWork",Zd),("BadDuty",Zd),("TooMany",Zd),("NoRanks",Zd)]
def Jep:Str->Option Bool:=λ c=>J9 c [("BadWork",Zd),("BadDuty",Zd),("TooMany",Zd),("NoRanks",Zd)]
abbrev pg (k:Nat):Pg:=mkPg T (run T k)
section
variable (k:Nat)(x0 x1 x2 x3 x4 x5 x6:IV)(h:IH)
abbrev X1:=run T k Jag
abbrev Jcy:=run T k Jc2
abbrev Va:=run T k Jae
abbrev Jbl:=run T k Jby
abbrev Jdj:=run T k Jee
abbrev Jfs:=run T k Jed
abbrev Jde:=run T k Jbv
abbrev Jdk:=run T k Jef
abbrev Jbi:=run T k Jat
abbrev Jaf:=run T k Jaa
abbrev X9:=run T k Jbw
abbrev X8:=run T k Jeg
abbrev X2:=run T k Qh
abbrev Jdb:=run T k Jbr
abbrev Jeq:=run T k Jc0
abbrev Jay:=run T k Ja9
abbrev Jbb:=run T k Jah
abbrev Jfq:=run T k Jeb
abbrev Jce:=run T k Ja7
abbrev X7:=run T k Jls
abbrev Jfr:=run T k Jec
abbrev X3:=run T k Jfh
abbrev Jam:=run T k Jad
abbrev Jbc:=run T k Jai
abbrev Jhq:=run T k Jfi
abbrev Jdf:=run T k Jbx
abbrev Jer:=run T k Jc1
abbrev Xz:=run T k Jbo
abbrev Jc9:=run T k Jbp
abbrev Jda:=run T k Jbq
abbrev Jal:=run T k Jac
abbrev Jcf:=run T k Ja8
abbrev Jdc:=run T k Jbs
abbrev Jdd:=run T k Jbt
abbrev X5:=run T k Jau
abbrev Jbj:=run T k Jav
abbrev X4:=run T k Jab
abbrev X6:=run T k Jc3
abbrev Jbk:=run T k Jbu
abbrev VX:=run T k Q8
def Jb3 (k:Nat):S1:=(Ya (xfOf T "stuck") "stuck" (Ja 0) (eCB (on1 Qq) (Jb (Ja 1) Jd)))
def Jb2:S1:=Je (JO (XL (λ c=>((pg k).xo c).isSome) (Jb (Ja 0) (Jb (eC (.str "no order of the works keeps the duty")) Jd)))) (Jb3 k)
theorem Jgb:X1 (k+1) [x0,x1] h=(Jb2 k [Za x0,Za x1] h).fin:=by kernel_rfl
def Jiw (k:Nat):S1:=(Jm (eAnd (eIsi Vf (Ja 0)) (eUn (Vz tru) (eIsi Ve (Ja 0))) tru))
theorem Jkr:Jcy (k+1) [x0] h=(Jiw k [Za x0] h).fin:=by kernel_rfl
def Jbe:S1:=(Jm (eAnd (Jn (Jcy k) [] (Jb (Ja 0) Jd)) (Jc cGe (Ja 0) (Ja 1)) tru))
theorem Jfb:Va (k+1) [x0,x1] h=(Jbe k [Za x0,Za x1] h).fin:=by kernel_rfl
def Jd9 (k:Nat):S1:=(Jm (Jc JJ (Jc JN (Jc Jo (Ja 0) (Ja 1)) (eC (.int 1))) (Ja 1)))
theorem Jjm:Jbl (k+1) [x0,x1] h=(Jd9 k [Za x0,Za x1] h).fin:=by kernel_rfl
def Jbm (k:Nat):E1:=(Q9 cLe cLe (eC (.str "a")) (Ja 0) (eC (.str "z")))
def Jf0:S1:=(Jm (eCB (on1 allI) (Jb (Ju (J1 (Ja 0)) 1 [] (gNm 0) J8 (Jbm k)) Jd)))
def Jfz:S1:=Je (sIf (tOrI (JA (Ji tru (eIsi Vr (Ja 0)))) (JA (Ji asB (Q9 cLe cLe (eC (.int 1)) (eCB (on1 lenI) (Jb (Ja 0) Jd)) (eC (.int 8)))))) (Jm (eC (.bl Zh))) Jv) (Jf0 k)
theorem Jnb:Jdj (k+1) [x0] h=(Jfz k [Za x0] h).fin:=by kernel_rfl
def Jfy:S1:=(Jm (eAnd (Jn (Va k) [] (Jb (Jc Jh (Ja 0) (eC (.int 2))) (Jb (Jc Jo (Jc Jh (Ja 0) (eC (.int 1))) (eC (.int 1))) Jd))) (Jc cLt (Jc Jh (Ja 0) (eC (.int 2))) (Ja 1)) tru))
def Jfx:S1:=Je (sIf (JA (Ji tru (Jn (Va k) [] (Jb (Jc Jh (Ja 0) (eC (.int 1))) (Jb (eC (.int 0)) Jd))))) (Jm (eC (.bl Zh))) Jv) (Jfy k)
def Jfw:S1:=Je (sIf (tOrI (JA (Ji tru (eIsi Vg (Ja 0)))) (tOrI (Ji asB (Jc cNe (eCB (on1 lenI) (Jb (Ja 0) Jd)) (eC (.int 3)))) (JA (Ji tru (Jn (Jdj k) [] (Jb (Jc Jh (Ja 0) (eC (.int 0))) Jd)))))) (Jm (eC (.bl Zh))) Jv) (Jfx k)
theorem Jna:Jfs (k+1) [x0,x1] h=(Jfw k [Za x0,Za x1] h).fin:=by kernel_rfl
def Jdy (k:Nat):S1:=(Jm (eOr (Jc cLe (Jc Jh (Ja 0) (eC (.int 2))) (Jc Jh (Ja 1) (eC (.int 1)))) (Jc cLe (Jc Jh (Ja 1) (eC (.int 2))) (Jc Jh (Ja 0) (eC (.int 1)))) tru))
theorem Jjj:Jde (k+1) [x0,x1] h=(Jdy k [Za x0,Za x1] h).fin:=by kernel_rfl
def Jf1 (k:Nat):S1:=(Jm (eAnd (Jc cLe (Jc Jh (Ja 1) (eC (.int 1))) (Jc Jh (Ja 0) (eC (.int 1)))) (Jc cLe (Jc Jh (Ja 0) (eC (.int 2))) (Jc Jh (Ja 1) (eC (.int 2)))) tru))
theorem Jnc:Jdk (k+1) [x0,x1] h=(Jf1 k [Za x0,Za x1] h).fin:=by kernel_rfl
def Jci:S1:=(Jm (eOr (Jn (Jdk k) [] (Jb (Ja 0) (Jb (Ja 1) Jd))) (Jn (Jdk k) [] (Jb (Ja 1) (Jb (Ja 0) Jd))) tru))
def Jch:S1:=Je (sIf (Ji asB (Jc cEq (Jc Jh (Ja 0) (eC (.int 0))) (Jc Jh (Ja 1) (eC (.int 0))))) (Jm (eC (.bl Zh))) Jv) (Jci k)
def Jcg:S1:=Je (sIf (Ji tru (Jn (Jde k) [] (Jb (Ja 0) (Jb (Ja 1) Jd)))) (Jm (eC (.bl Zd))) Jv) (Jch k)
theorem Jgv:Jbi (k+1) [x0,x1] h=(Jcg k [Za x0,Za x1] h).fin:=by kernel_rfl
def Jaj:E1:=(Jn (Jbi k) [] (Jb (Ja 1) (Jb (Ja 0) Jd)))
def Jas:S1:=(sIf (JA (Ji tru (eCB (on1 allI) (Jb (Ju (J1 (eSl slI (Ja 0) QT (JK (Ja 1)))) 1 [2] (gNm 0) J8 (Jaj k)) Jd)))) (Jm (eC (.bl Zh))) Jv)
def Jax (k:Nat):S1:=(Jm (eC (.bl Zd)))
def Jaw:S1:=Je (sFor (iRg QM (Jb (Ja 0) Jd)) (gTp 2 (gC (gNm 1) (gC (gNm 2) gN))) (Jas k)) (Jax k)
theorem Jei:Jaf (k+1) [x0] h=(Jaw k [Za x0,Zc,Zc] h).fin:=by kernel_rfl
def Jcs:E1:=(Jn (Jfs k) [] (Jb (Ja 0) (Jb (Ja 1) Jd)))
def Jct (k:Nat):E1:=(eTup (Jb (Jc Jh (Ja 0) (eC (.int 0))) (Jb (Jc Jh (Ja 0) (eC (.int 1))) (Jb (Jc Jh (Ja 0) (eC (.int 2))) Jd))))
def Jd4:S1:=(Jm (eCB (on1 VN) (Jb (Ju (J1 (Ja 0)) 1 [] (gNm 0) J8 (Jct k)) Jd)))
def Jd3:S1:=Je (sIf (JA (Ji tru (Jn (Jaf k) [] (Jb (Ja 0) Jd)))) (JT "BadWork" (Jb (eC (.str "two holds lie apart, or one in the other, and apart where they are of one thing")) Jd)) Jv) (Jd4 k)
def Jd2:S1:=Je (sIf (JA (Ji tru (eCB (on1 allI) (Jb (Ju (J1 (Ja 0)) 1 [1] (gNm 0) J8 (Jcs k)) Jd)))) (JT "BadWork" (Jb (eC (.str "a hold is a tuple (thing, start, end), with 0 <= start < end < length")) Jd)) Jv) (Jd3 k)
def Jd1:S1:=Je (sIf (Ji asB (Jc cGt (eCB (on1 lenI) (Jb (Ja 0) Jd)) (eC (.int 6)))) (JT "BadWork" (Jb (eC (.str "a work has at most six holds")) Jd)) Jv) (Jd2 k)
def Jd0:S1:=Je (sIf (JA (Ji tru (eIsi Qg (Ja 0)))) (JT "BadWork" (Jb (eC (.str "the holds are a list")) Jd)) Jv) (Jd1 k)
def Jdz:S1:=Je (sIf (Ji asB (Jc cIs (Ja 0) (eC .non))) (Jm (eTup Jd)) Jv) (Jd0 k)
theorem Jjk:X9 (k+1) [x0,x1] h=(Jdz k [Za x0,Za x1] h).fin:=by kernel_rfl
def Jf4 (k:Nat):S1:=(Jm (Ja 0))
def Jf3:S1:=Je (sIf (tOrI (JA (Ji tru (Jn (Va k) [] (Jb (Ja 0) (Jb (eC (.int 1)) Jd))))) (Ji asB (Jc cGt (Ja 0) (Ja 1)))) (JT "BadWork" (Jb (eC (.str "the due is a whole number from 1 to the gap")) Jd)) Jv) (Jf4 k)
def Jf2:S1:=Je (sIf (Ji asB (Jc cIs (Ja 0) (eC .non))) (Jm (Ja 1)) Jv) (Jf3 k)
theorem Jnd:X8 (k+1) [x0,x1] h=(Jf2 k [Za x0,Za x1] h).fin:=by kernel_rfl
def Jdt:S1:=(Qz "hold_tuples" (Ja 0) (Jn (X9 k) [] (Jb (Ja 6) (Jb (Ja 3) Jd))))
def Jhs:S1:=Je (sIf (JA (Ji tru (Jn (Jdj k) [] (Jb (Ja 1) Jd)))) (JT "BadWork" (Jb (eC (.str "the name is a text of one to eight small letters")) Jd)) Jv) (Je (sIf (JA (Ji tru (Jn (Va k) [] (Jb (Ja 2) (Jb (eC (.int 1)) Jd))))) (JT "BadWork" (Jb (eC (.str "the gap is a whole number from 1 on")) Jd)) Jv) (Je (sIf (JA (Ji tru (Jn (Va k) [] (Jb (Ja 3) (Jb (eC (.int 1)) Jd))))) (JT "BadWork" (Jb (eC (.str "the length is a whole number from 1 on")) Jd)) Jv) (Je (sIf (JA (Ji tru (Jn (Va k) [] (Jb (Ja 5) (Jb (eC (.int 0)) Jd))))) (JT "BadWork" (Jb (eC (.str "the lateness is a whole number from 0 on")) Jd)) Jv) (Je (Qz "name" (Ja 0) (Ja 1)) (Je (Qz "gap" (Ja 0) (Ja 2)) (Je (Qz "length" (Ja 0) (Ja 3)) (Je (Qz "due" (Ja 0) (Jn (X8 k) [] (Jb (Ja 4) (Jb (Ja 2) Jd)))) (Je (Qz "late" (Ja 0) (Ja 5)) (Jdt k)))))))))
theorem Jjf:X2 (k+1) [x0,x1,x2,x3,x4,x5,x6] h=(Jhs k [Za x0,Za x1,Za x2,Za x3,Za x4,Za x5,Za x6] h).fin:=by kernel_rfl
def Jds (k:Nat):S1:=(Jm (eCB (on1 Qq) (Jb (eFld "hold_tuples" (Ja 0)) Jd)))
theorem Jje:Jdb (k+1) [x0] h=(Jds k [Za x0] h).fin:=by kernel_rfl
def Jek:S1:=(JO (J0 (pg k) "setdefault" 2 (Ja 1) (Jb (Jc Jh (Ja 3) (eC (.int 0))) (Jb (Ja 2) Jd))))
def Jel:S1:=(sFor (J1 (J0 (pg k) "held" 0 (J0 (pg k) "work" 1 (Ja 0) (Jb (Ja 2) Jd)) Jd)) (gNm 3) (Jek k))
def Je4 (k:Nat):S1:=(Jm (Ja 1))
def Je3:S1:=Je (sFor (iRg JR (Jb (J0 (pg k) "size" 0 (Ja 0) Jd) Jd)) (gNm 2) (Jel k)) (Je4 k)
def Je2:S1:=Je (Jk 1 Jr4) (Je3 k)
theorem Jkp:Jeq (k+1) [x0] h=(Je2 k [Za x0,Zc,Zc,Zc] h).fin:=by kernel_rfl
def Jc5 (k:Nat):S1:=(Jm (Jc JN (Jc JN (Jc Jh (Ja 0) (eC (.int 2))) (Jc Jh (Ja 0) (eC (.int 1)))) (eC (.int 1))))
theorem Jh5:Jay (k+1) [x0] h=(Jc5 k [Za x0] h).fin:=by kernel_rfl
def Ja4 (k:Nat):E1:=(eTup (Jb (Ja 3) (Jb (Ja 0) Jd)))
def Ja5 (k:Nat):T1:=(Ji asB (Jc cLe (Jc Xh (Ja 2) (Jc Jh (Ja 0) (eC (.int 0)))) (Ja 1)))
def Jbg:S1:=(JO (J0 (pg k) "extend" 1 (Ja 3) (Jb (Ju (J1 (J0 (pg k) "held" 0 (J0 (pg k) "work" 1 (Ja 0) (Jb (Ja 4) Jd)) Jd)) 1 [1,2,4] (gNm 0) (Ja5 k) (Ja4 k)) Jd)))
def Ja6:E1:=(Jn (Jay k) [] (Jb (Jc Jh (Ja 0) (eC (.int 1))) Jd))
def Jb7:S1:=(Jm (XO gtZ "longest_hold" 1 [] (Jb (Ja 3) Jd) (Ja6 k) (eC .non)))
def Jb6:S1:=Je (sFor (iRg Vx (Jb (Jc Jo (Ja 1) (eC (.int 1))) (Jb (J0 (pg k) "size" 0 (Ja 0) Jd) Jd))) (gNm 4) (Jbg k)) (Jb7 k)
def Jb5:S1:=Je (Jk 3 (eLst Jd)) (Jb6 k)
def Jb4:S1:=Je (Jk 2 (Jn (Jeq k) [] (Jb (Ja 0) Jd))) (Jb5 k)
theorem Jgc:Jbb (k+1) [x0,x1] h=(Jb4 k [Za x0,Za x1,Zc,Zc,Zc] h).fin:=by kernel_rfl
def Jdg:S1:=(Jm (eIf (Ji asB (Jc cIs (Ja 2) (eC .non))) (eC (.int 0)) (Jn (Jay k) [] (Jb (Jc Jh (Ja 2) (eC (.int 1))) Jd))))
def Jfu:S1:=Je (Jk 2 (Jn (Jbb k) [] (Jb (Ja 0) (Jb (Ja 1) Jd)))) (Jdg k)
theorem Jm8:Jfq (k+1) [x0,x1] h=(Jfu k [Za x0,Za x1,Zc] h).fin:=by kernel_rfl
def Jc4:S1:=(Jm (eIf (Ji asB (Jc cGe (Ja 1) (eC (.int 1)))) (Jn (Jbl k) [] (Jb (Jc Jo (Ja 1) (eFld "late" (Ja 0))) (Jb (eFld "gap" (Ja 0)) Jd))) (eC (.int 0))))
theorem Jh3:Jce (k+1) [x0,x1] h=(Jc4 k [Za x0,Za x1] h).fin:=by kernel_rfl
def XG:E1:=(J0 (pg k) "work" 1 (Ja 1) (Jb (Ja 0) Jd))
def Jhc:E1:=(Jc JL (Jn (Jce k) [] (Jb (Ja 0) (Jb (Ja 1) Jd))) (eFld "length" (Ja 0)))
def Jln:S1:=(Jm (Jc Jo (Jc Jo (Jn (Jfq k) [] (Jb (Ja 0) (Jb (Ja 1) Jd))) (eFld "length" (J0 (pg k) "work" 1 (Ja 0) (Jb (Ja 1) Jd)))) (Ja 4)))
def Jlm:S1:=Je (Jk 4 (eCB (on1 sumI) (Jb (Ju (J1 (Ja 3)) 1 [2] (gNm 0) J8 (Jhc k)) Jd))) (Jln k)
def Jll:S1:=Je (Jk 3 (Ju (iRg JR (Jb (Ja 1) Jd)) 1 [0] (gNm 0) J8 (XG k))) (Jlm k)
theorem Jv5:X7 (k+1) [x0,x1,x2] h=(Jll k [Za x0,Za x1,Za x2,Zc,Zc] h).fin:=by kernel_rfl
def Jfv (k:Nat):S1:=(Jm (Jc cLe (Jc Jo (Ja 1) (eFld "late" (Ja 0))) (eFld "due" (Ja 0))))
theorem Jm9:Jfr (k+1) [x0,x1] h=(Jfv k [Za x0,Za x1] h).fin:=by kernel_rfl
def Jgi:S1:=(Je (Jk 3 (Jn (X7 k) [] (Jb (Ja 0) (Jb (Ja 1) (Jb (Ja 2) Jd))))) (Je (sIf (Ji asB (Jc cLe (Ja 3) (Ja 2))) (Jm (Ja 2)) Jv) (Jk 2 (Ja 3))))
def Jg7 (k:Nat):S1:=(Jm (eC .non))
def Jg6:S1:=Je (VJ (Ji tru (Jn (Jfr k) [] (Jb (J0 (pg k) "work" 1 (Ja 0) (Jb (Ja 1) Jd)) (Jb (Ja 2) Jd)))) (Jgi k)) (Jg7 k)
def Jg5:S1:=Je (Jk 2 (eC (.int 1))) (Jg6 k)
theorem Jpc:X3 (k+1) [x0,x1] h=(Jg5 k [Za x0,Za x1,Zc,Zc] h).fin:=by kernel_rfl
def Jaq (k:Nat):E1:=(Ja 0)
def Jar (k:Nat):T1:=(Ji asB (Jc cNe (Ja 0) (Ja 1)))
def Ja3:S1:=(Jm (Jc VZ (Jn (X3 k) [] (Jb (J0 (pg k) "reordered" 1 (Ja 0) (Jb (Jc Jo (Jc Jo (Ja 4) (eLst (Jb (Ja 3) Jd))) (Ja 2)) Jd)) (Jb (eCB (on1 lenI) (Jb (Ja 4) Jd)) Jd))) (eC .non)))
def Ja2:S1:=Je (Jk 4 (Ju (J1 (Ja 1)) 1 [3] (gNm 0) (Jar k) (Jaq k))) (Ja3 k)
theorem Jex:Jam (k+1) [x0,x1,x2,x3] h=(Ja2 k [Za x0,Za x1,Za x2,Za x3,Zc] h).fin:=by kernel_rfl
def Jbh:S1:=(sIf (Ji tru (Jn (Jam k) [] (Jb (Ja 0) (Jb (Ja 1) (Jb (Ja 2) (Jb (Ja 3) Jd)))))) (Jm (Ja 3)) Jv)
def Jb9 (k:Nat):S1:=(Jm (eC .non))
def Jb8:S1:=Je (sFor (iRg Vj (Jb (Ja 1) Jd)) (gNm 3) (Jbh k)) (Jb9 k)
theorem Jgd:Jbc (k+1) [x0,x1,x2] h=(Jb8 k [Za x0,Za x1,Za x2,Zc] h).fin:=by kernel_rfl
def Jgj:S1:=(Je (Jk 3 (Jn (Jbc k) [] (Jb (Ja 0) (Jb (Ja 1) (Jb (Ja 2) Jd))))) (Je (sIf (Ji asB (Jc cIs (Ja 3) (eC .non))) (Yb (λ c=>c=="NoRanks") (Jlv "NoRanks" (X1 k) [] (Jb (Ja 1) Jd))) Jv) (Je (JO (J0 (pg k) "remove" 1 (Ja 1) (Jb (Ja 3) Jd))) (Jk 2 (Jc Jo (eLst (Jb (Ja 3) Jd)) (Ja 2))))))
def Jhb (k:Nat):S1:=(Jm (Ja 2))
def Jha:S1:=Je (VJ (Ji asB (Jc cGt (eCB (on1 lenI) (Jb (Ja 1) Jd)) (eC (.int 0)))) (Jgj k)) (Jhb k)
def Jg9:S1:=Je (Jk 2 (eLst Jd)) (Jha k)
def Jg8:S1:=Je (Jk 1 (eLR (Jb (J0 (pg k) "size" 0 (Ja 0) Jd) Jd))) (Jg9 k)
theorem Jpd:Jhq (k+1) [x0] h=(Jg8 k [Za x0,Zc,Zc,Zc] h).fin:=by kernel_rfl
def Jcu (k:Nat):E1:=(eIsi (Juh ["Work"]) (Ja 0))
def Jcv (k:Nat):E1:=(eFld "name" (Ja 0))
def Jd8 (k:Nat):S1:=(Jm (eCB (on1 VN) (Jb (Ja 0) Jd)))
def Jd7:S1:=Je (sIf (Ji asB (Jc cNe (XM (Jb (Ju (J1 (Ja 0)) 1 [] (gNm 0) J8 (Jcv k)) Jd)) (eCB (on1 lenI) (Jb (Ja 0) Jd)))) (JT "BadDuty" (Jb (eC (.str "no two works of a duty have one name")) Jd)) Jv) (Jd8 k)
def Jd6:S1:=Je (sIf (JA (Ji tru (eCB (on1 allI) (Jb (Ju (J1 (Ja 0)) 1 [] (gNm 0) J8 (Jcu k)) Jd)))) (JT "BadDuty" (Jb (eC (.str "a duty is made of works alone")) Jd)) Jv) (Jd7 k)
def Jd5:S1:=Je (sIf (JA (Ji tru (eIsi Qg (Ja 0)))) (JT "BadDuty" (Jb (eC (.str "a duty is made of a list of works")) Jd)) Jv) (Jd6 k)
theorem Jjl:Jdf (k+1) [x0] h=(Jd5 k [Za x0] h).fin:=by kernel_rfl
def Jc6 (k:Nat):E1:=(eFld "due" (Ja 0))
def Jc7:E1:=(Jn (Jbl k) [] (Jb (Jc Jo (Ja 1) (eFld "late" (Ja 0))) (Jb (eFld "gap" (Ja 0)) Jd)))
def Je6:S1:=(Jm (eCB (on1 sumI) (Jb (Ju (J1 (Ja 0)) 1 [1] (gNm 0) J8 (Jc7 k)) Jd)))
def Je5:S1:=Je (Jk 1 (XN (Jb (Ju (J1 (Ja 0)) 1 [] (gNm 0) J8 (Jc6 k)) Jd) (eC (.int 0)))) (Je6 k)
theorem Jkq:Jer (k+1) [x0] h=(Je5 k [Za x0,Zc] h).fin:=by kernel_rfl
def Jdp:S1:=(sIf (Ji asB (Jc cGt (Jn (Jer k) [] (Jb (eFld "works" (Ja 0)) Jd)) (eC (.int 80)))) (JT "TooMany" (Jb (eC (.str "the crowd of a duty is at most 80")) Jd)) Jv)
def Jdo:S1:=Je (sIf (Ji asB (Jc cGt (eCB (on1 lenI) (Jb (eFld "works" (Ja 0)) Jd)) (eC (.int 12)))) (JT "TooMany" (Jb (eC (.str "a duty has at most twelve works")) Jd)) Jv) (Jdp k)
def Jdn:S1:=Je (Qz "works" (Ja 0) (Jn (Jdf k) [] (Jb (Ja 1) Jd))) (Jdo k)
theorem Jjb:Xz (k+1) [x0,x1] h=(Jdn k [Za x0,Za x1] h).fin:=by kernel_rfl
def Jdq (k:Nat):S1:=(Jm (eCB (on1 lenI) (Jb (eFld "works" (Ja 0)) Jd)))
theorem Jjc:Jc9 (k+1) [x0] h=(Jdq k [Za x0] h).fin:=by kernel_rfl
def Jdr (k:Nat):S1:=(Jm (Jc Jh (eFld "works" (Ja 0)) (Ja 1)))
theorem Jjd:Jda (k+1) [x0,x1] h=(Jdr k [Za x0,Za x1] h).fin:=by kernel_rfl
def Jao:E1:=(Jn (Jcy k) [] (Jb (Ja 0) Jd))
def Jap (k:Nat):E1:=(Jc Jh (eFld "works" (Ja 1)) (Ja 0))
def Ja1:S1:=(Jm (QK "Duty" (Xz k) [] (Jb (Ju (J1 (Ja 1)) 1 [0] (gNm 0) J8 (Jap k)) Jd)))
def Ja0:S1:=Je (sIf (Ji asB (Jc cNe (eCB (on1 QX) (Jb (Ja 1) Jd)) (eLR (Jb (J0 (pg k) "size" 0 (Ja 0) Jd) Jd)))) (JT "BadDuty" (Jb (eC (.str "each number of a work stands just once in an order")) Jd)) Jv) (Ja1 k)
def Jaz:S1:=Je (sIf (tOrI (JA (Ji tru (eIsi Qg (Ja 1)))) (JA (Ji tru (eCB (on1 allI) (Jb (Ju (J1 (Ja 1)) 1 [] (gNm 0) J8 (Jao k)) Jd))))) (JT "BadDuty" (Jb (eC (.str "works are put in order by a list of their numbers")) Jd)) Jv) (Ja0 k)
theorem Jew:Jal (k+1) [x0,x1] h=(Jaz k [Za x0,Za x1] h).fin:=by kernel_rfl
def Jgt:S1:=Je (Jk 2 (eLst Jd)) (Je (sIf (Ji asB (Jc cGe (Ja 0) (Jc JM (eC (.int 10)) (eC (.int 30))))) (Je (Jk 3 (Jc JN (Ja 0) (Jc JM (eC (.int 10)) (eC (.int 30))))) (Je (sFor (iRg JR (Jb (Ja 1) Jd)) (gNm 4) (Je (JO (J0 (pg k) "append" 1 (Ja 2) (Jb (Jc J7 (Ja 3) (Jc JM (eC (.int 10)) (eC (.int 45)))) Jd))) (Jk 3 (Jc JJ (Ja 3) (Jc JM (eC (.int 10)) (eC (.int 45))))))) (Jm (Ja 2)))) Jv) (Je (Jk 5 (Jc Jo (Jc J7 (Ja 0) (Jc Jo (Jc JM (eC (.int 10)) (eC (.int 18))) (eC (.int 9)))) (eC (.int 48271)))) (Je (sFor (iRg JR (Jb (Jc Jo (Ja 1) (eC (.int 2))) Jd)) (gNm 4) (Je (Jk 5 (Jc J7 (Jc Jo (Jc Jo (Jc JL (Ja 5) (Ja 5)) (Jc JL (eC (.int 48271)) (Ja 5))) (Ja 4)) (Jc Jo (Jc JM (eC (.int 10)) (eC (.int 18))) (eC (.int 9))))) (JO (J0 (pg k) "append" 1 (Ja 2) (Jb (Ja 5) Jd))))) (Jm (eSl slI (Ja 2) (JK (eC (.int 2))) QT)))))
theorem Jh4:Jcf (k+1) [x0,x1] h=(Jgt k [Za x0,Za x1,Zc,Zc,Zc,Zc] h).fin:=by kernel_rfl
def Jdw (k:Nat):S1:=(Jm (Ja 2))
def Jdv:S1:=Je (sIf (Xr (Ji asB (Jc cGt (Ja 1) (eC (.int 1)))) (Ji asB (Jc cEq (Jc J7 (Jc Jh (Ja 0) (eC (.int 0))) (eC (.int 4))) (eC (.int 0))))) (Je (Jk 3 (Jc J7 (Jc Jh (Ja 0) (eC (.int 1))) (Jc JN (Ja 1) (eC (.int 1))))) (Je (Jk 4 (Jc Jo (Jc Jo (Ja 3) (eC (.int 1))) (Jc J7 (Jc Jh (Ja 0) (eC (.int 2))) (Jc JN (Jc JN (Ja 1) (eC (.int 1))) (Ja 3))))) (Je (JO (J0 (pg k) "append" 1 (Ja 2) (Jb (eTup (Jb (Jc Jh (eLst (Jb (eC (.str "ink")) (Jb (eC (.str "oven")) Jd))) (Jc J7 (Jc JJ (Jc Jh (Ja 0) (eC (.int 0))) (eC (.int 4))) (eC (.int 2)))) (Jb (Ja 3) (Jb (Ja 4) Jd)))) Jd))) (sIf (Xr (Ji asB (Jc cEq (Jc J7 (Jc Jh (Ja 0) (eC (.int 3))) (eC (.int 2))) (eC (.int 0)))) (Ji asB (Jc cLt (Ja 4) (Jc JN (Ja 1) (eC (.int 1)))))) (JO (J0 (pg k) "append" 1 (Ja 2) (Jb (eTup (Jb (Jc Jh (eLst (Jb (eC (.str "ink")) (Jb (eC (.str "oven")) Jd))) (Jc J7 (Jc JJ (Jc Jh (Ja 0) (eC (.int 3))) (eC (.int 2))) (eC (.int 2)))) (Jb (Ja 4) (Jb (Jc Jo (Jc Jo (Ja 4) (eC (.int 1))) (Jc J7 (Jc Jh (Ja 0) (eC (.int 4))) (Jc JN (Jc JN (Ja 1) (eC (.int 1))) (Ja 4)))) Jd)))) Jd))) Jv)))) Jv) (Jdw k)
def Jdu:S1:=Je (Jk 2 (eLst Jd)) (Jdv k)
theorem Jjg:Jdc (k+1) [x0,x1] h=(Jdu k [Za x0,Za x1,Zc,Zc,Zc] h).fin:=by kernel_rfl
def Jdx:S1:=Je (Jk 5 (Jc Jo (eC (.int 1)) (Jc J7 (Jc Jh (Ja 3) (eC (.int 2))) (Jc Jo (Jc JJ (Jc JL (Ja 4) (Jc Jh (eLst (Jb (eC (.int 1)) (Jb (eC (.int 2)) Jd))) (Jc J7 (Jc JJ (Jc Jh (Ja 3) (eC (.int 1))) (eC (.int 5))) (eC (.int 2))))) (Jc JL (eC (.int 2)) (Ja 2))) (eC (.int 1)))))) (Je (Jk 6 (Jc JN (Ja 4) (Jc JL (Jc J7 (Jc Jh (Ja 3) (eC (.int 3))) (eC (.int 2))) (Jc J7 (Jc Jh (Ja 3) (eC (.int 4))) (Jc Jo (Jc JJ (Jc JL (Ja 4) (eC (.int 9))) (eC (.int 10))) (eC (.int 1))))))) (Je (Jk 7 (Jc JL (Jc J7 (Jc Jh (Ja 3) (eC (.int 5))) (eC (.int 2))) (Jc J7 (Jc Jh (Ja 3) (eC (.int 6))) (Jc Jo (Jc JJ (Ja 4) (eC (.int 4))) (eC (.int 1)))))) (Jm (eTup (Jb (Ja 4) (Jb (Ja 5) (Jb (Ja 6) (Jb (Ja 7) (Jb (Jn (Jdc k) [] (Jb (eSl slI (Ja 3) (JK (eC (.int 7))) QT) (Jb (Ja 5) Jd))) Jd)))))))))
def Jht:S1:=Je (Jk 3 (Jn (Jcf k) [] (Jb (Ja 0) (Jb (eC (.int 12)) Jd)))) (Je (Jk 4 (Jc Jo (Jc JL (Ja 1) (Jc Jo (eC (.int 1)) (Jc J7 (Jc Jh (Ja 3) (eC (.int 0))) (eC (.int 8))))) (Jc J7 (Jc Jh (Ja 3) (eC (.int 1))) (eC (.int 5))))) (Je (sIf (Ji asB (Jc cGt (Ja 2) (eC (.int 5)))) (Jk 4 (Jc Jo (Jc JL (Ja 1) (Jc Jo (eC (.int 1)) (Jc J7 (Jc Jh (Ja 3) (eC (.int 0))) (eC (.int 2))))) (Jc J7 (Jc Jh (Ja 3) (eC (.int 1))) (eCB (on2 minI) (Jb (eC (.int 5)) (Jb (Jc Jo (eC (.int 1)) (Jc JJ (Ja 1) (eC (.int 2)))) Jd)))))) Jv) (Jdx k)))
theorem Jjh:Jdd (k+1) [x0,x1,x2] h=(Jht k [Za x0,Za x1,Za x2,Zc,Zc,Zc,Zc,Zc] h).fin:=by kernel_rfl
def Jbf (k:Nat):E1:=(Jc Jh (Ja 0) (eC (.int 0)))
def Jca:S1:=(sIf (Ji asB (Jc cIn (Ja 4) (Ju (J1 (Jc Jh (Ja 7) (eC (.int 4)))) 1 [] (gNm 0) J8 (Jbf k)))) (Jk 2 (eCB (on2 maxI) (Jb (Ja 2) (Jb (Jc JN (Jc JN (Ja 6) (Ja 5)) (eC (.int 1))) Jd)))) Jv)
def Jcb:S1:=(sFor (J1 (eSl slI (Ja 0) QT (JK (Jc Jo (Ja 1) (eC (.int 1)))))) (gNm 7) (Jca k))
def Jcc:S1:=(sFor (J1 (Jc Jh (Ja 3) (eC (.int 4)))) (gTp 3 (gC (gNm 4) (gC (gNm 5) (gC (gNm 6) gN)))) (Jcb k))
def Jcl (k:Nat):S1:=(Jm (Ja 2))
def Jck:S1:=Je (sFor (J1 (eSl slI (Ja 0) (JK (Jc Jo (Ja 1) (eC (.int 1)))) QT)) (gNm 3) (Jcc k)) (Jcl k)
def Jcj:S1:=Je (Jk 2 (eC (.int 0))) (Jck k)
theorem Jgw:X5 (k+1) [x0,x1] h=(Jcj k [Za x0,Za x1,Zc,Zc,Zc,Zc,Zc,Zc] h).fin:=by kernel_rfl
def Jan (k:Nat):S1:=(Jk 7 (Jc Jo (Ja 7) (Jc JL (Jc JJ (Jc JN (Jc Jo (Jc Jo (Ja 8) (Jc Jh (Ja 9) (eC (.int 3)))) (Jc Jh (Ja 9) (eC (.int 0)))) (eC (.int 1))) (Jc Jh (Ja 9) (eC (.int 0)))) (Jc Jh (Ja 9) (eC (.int 1))))))
def Jcd:S1:=(Je (Jk 8 (Ja 7)) (Je (sIf (Ji asB (Jc cGt (Jc Jo (Ja 8) (Ja 5)) (Ja 4))) (Jm (eC (.bl Zh))) Jv) (Je (Jk 7 (Jc Jo (Jn (X5 k) [] (Jb (Ja 0) (Jb (Ja 1) Jd))) (Ja 3))) (sFor (J1 (eSl slI (Ja 0) QT (JK (Ja 1)))) (gNm 9) (Jan k)))))
def Jcq (k:Nat):S1:=(Jm (eC (.bl Zd)))
def Jcp:S1:=Je (VJ (Ji asB (Jc cLt (Ja 8) (Ja 7))) (Jcd k)) (Jcq k)
def Jco:S1:=Je (Jk 8 (eC (.int 0))) (Jcp k)
def Jcn:S1:=Je (Jk 7 (Jc Jo (Jn (X5 k) [] (Jb (Ja 0) (Jb (Ja 1) Jd))) (Ja 3))) (Jco k)
def Jcm:S1:=Je (sAsg (Jc Jh (Ja 0) (Ja 1)) (gTp 5 (gC (gNm 2) (gC (gNm 3) (gC (gNm 4) (gC (gNm 5) (gC (gNm 6) gN))))))) (Jcn k)
theorem Jgx:Jbj (k+1) [x0,x1] h=(Jcm k [Za x0,Za x1,Zc,Zc,Zc,Zc,Zc,Zc,Zc,Zc] h).fin:=by kernel_rfl
def Jak:E1:=(Jn (Jbj k) [] (Jb (Ja 1) (Jb (Ja 0) Jd)))
def Jdh:S1:=Je (Jk 2 (Ju (J1 (Ja 1)) 1 [0] (gNm 0) J8 (Jc Jh (Ja 1) (Ja 0)))) (Jm (eCB (on1 allI) (Jb (Ju (iRg JR (Jb (eCB (on1 lenI) (Jb (Ja 2) Jd)) Jd)) 1 [2] (gNm 0) J8 (Jak k)) Jd)))
theorem Jej:X4 (k+1) [x0,x1] h=(Jdh k [Za x0,Za x1,Zc] h).fin:=by kernel_rfl
def Jix:S1:=Je (sTry (Jk 1 (Jn (Jhq k) [] (Jb (Ja 0) Jd))) [(Jhn,Za 2,(Je (Jk 3 (eLst (Jb (eIsi (Vs Jho) (Ja 2)) (Jb (eIsi (Vs Jhm) (Ja 2)) (Jb (eIsi (Vs Jhp) (Ja 2)) (Jb (eIsi (Vs Jc8) (Ja 2)) Jd)))))) (Jk 1 (eTup (Jb (eIsi (Vs Jfa) (Ja 2)) (Jb (eIsi (Vs Jep) (Ja 2)) (Jb (Jc cIn (eC (.bl Zd)) (Ja 3)) Jd)))))))]) (Jm (Ja 1))
theorem Jks:X6 (k+1) [x0] h=(Jix k [Za x0,Zc,Zc,Zc] h).fin:=by kernel_rfl
def Jcr (k:Nat):E1:=(eAnd (eIsi Vf (Ja 0)) (eUn (Vz tru) (eIsi Ve (Ja 0))) tru)
def Jhu:S1:=Je (Jk 2 (eLR (Jb (eCB (on1 lenI) (Jb (Ja 1) Jd)) Jd))) (Je (sIf (Ji tru (eIsi Vg (Ja 0))) (Je (sIf (tOrI (Ji asB (Jc cNe (Ja 0) (eTup (Jb (eC (.bl Zd)) (Jb (eC (.bl Zd)) (Jb (eC (.bl Zh)) Jd)))))) (Ji tru (Jn (X4 k) [] (Jb (Ja 1) (Jb (Ja 2) Jd))))) (Jm (eC (.bl Zh))) Jv) (Jm (eUn (Vz tru) (Jn (X4 k) [] (Jb (Ja 1) (Jb (Xb "_law_right" 0 [1] (Jb (Ja 2) Jd) (Jc JN (Jc Jh (Jc Jh (Ja 1) (Ja 0)) (eC (.int 2))) (Jc Jh (Jc Jh (Ja 1) (Ja 0)) (eC (.int 3))))) Jd)))))) Jv) (Je (sIf (tOrI (JA (Ji tru (eIsi Qg (Ja 0)))) (JA (Ji tru (eCB (on1 allI) (Jb (Ju (J1 (Ja 0)) 1 [] (gNm 0) J8 (Jcr k)) Jd))))) (Jm (eC (.bl Zh))) Jv) (Jm (eAnd (Jc cEq (eCB (on1 QX) (Jb (Ja 0) Jd)) (Ja 2)) (Jn (X4 k) [] (Jb (Ja 1) (Jb (Ja 0) Jd))) tru))))
theorem Jji:Jbk (k+1) [x0,x1] h=(Jhu k [Za x0,Za x1,Zc] h).fin:=by kernel_rfl
def Ji3 (k:Nat):E1:=(Jc Jo (Jc JJ (Ja 1) (eC (.int 64))) (Jc JL (Jc JL (eC (.int 31)) (Ja 0)) (Ja 0)))
def Ji4:E1:=(Jn (Jdd k) [] (Jb (Ja 0) (Jb (Ja 2) (Jb (eCB (on1 lenI) (Jb (Ja 1) Jd)) Jd))))
def Jol:S1:=Je (Jk 13 (Jn (X6 k) [] (Jb (Ja 12) Jd))) (Je (sIf (JA (Ji tru (Jn (Jbk k) [] (Jb (Ja 13) (Jb (Ja 4) Jd))))) (Jm (eC (.bl Zh))) Jv) (Je (sIf (Ji tru (eIsi Qg (Ja 13))) (Je (JO (J0 (pg k) "append" 1 (Ja 13) (Jb (eC (.int 7)) Jd))) (Jm (Jn (Jbk k) [] (Jb (Jn (X6 k) [] (Jb (Ja 12) Jd)) (Jb (Ja 4) Jd))))) Jv) (Jm (Jc cEq (Jn (X6 k) [] (Jb (Ja 12) Jd)) (Ja 13)))))
def Jok:S1:=Je (Jk 5 (eLst Jd)) (Je (sFor (iRg JR (Jb (eCB (on1 lenI) (Jb (Ja 4) Jd)) Jd)) (gNm 6) (Je (sAsg (Jc Jh (Ja 4) (Ja 6)) (gTp 5 (gC (gNm 7) (gC (gNm 8) (gC (gNm 9) (gC (gNm 10) (gC (gNm 11) gN))))))) (JO (J0 (pg k) "append" 1 (Ja 5) (Jb (QK "Work" (X2 k) [] (Jb (Jc Jo (eC (.str "s")) (Jc Jh (eC (.str "tuvwxabcdefg")) (Ja 6))) (Jb (Ja 7) (Jb (Ja 8) (Jb (Ja 9) (Jb (Ja 10) (Jb (eCB (on1 Qq) (Jb (Ja 11) Jd)) Jd))))))) Jd))))) (Je (Jk 12 (QK "Duty" (Xz k) [] (Jb (Ja 5) Jd))) (Jol k)))
def Joj:S1:=Je (Jk 4 (Ju (J1 (Ja 3)) 1 [3,2] (gNm 0) J8 (Ji4 k))) (Jok k)
def Joi:S1:=Je (Jk 3 (eSl slI (Ja 0) (JK (eC (.int 1))) (JK (eC (.int 6))))) (Je (sIf (Ji asB (Jc cEq (Jc J7 (Jc JJ (Ja 1) (eC (.int 8))) (eC (.int 8))) (eC (.int 3)))) (Je (Jk 3 (Jc Jo (eSl slI (Ja 0) (JK (eC (.int 1))) (JK (eC (.int 13)))) (Ju (iRg JR (Jb (eC (.int 12)) Jd)) 1 [1] (gNm 0) J8 (Ji3 k)))) (Jk 3 (eSl slI (Ja 3) QT (JK (Jc Jo (eC (.int 6)) (Jc J7 (Jc JJ (Ja 1) (eC (.int 64))) (eC (.int 7)))))))) Jv) (Joj k))
def Joh:S1:=Je (Jk 2 (Jc Jo (eC (.int 1)) (Jc J7 (Jc JJ (Ja 1) (eC (.int 4))) (Jc Jh (eLst (Jb (eC (.int 3)) (Jb (Jc JM (eC (.int 10)) (eC (.int 15))) Jd))) (Jc J7 (Ja 1) (eC (.int 2))))))) (Joi k)
def Jvn:S1:=Je (Jk 1 (eC (.int 0))) (Je (sIf (Ji asB (Jc cNe (Ja 0) (eLst Jd))) (Jk 1 (Jc Jh (Ja 0) (eC (.int 0)))) Jv) (Joh k))
theorem Jy6:VX (k+1) [x0] h=(Jvn k [Za x0,Zc,Zc,Zc,Zc,Zc,Zc,Zc,Zc,Zc,Zc,Zc,Zc,Zc] h).fin:=by kernel_rfl
end
theorem Je7 (k:Nat):Vu (pg k) "held" 0 "Work"=Za (Jdb k,[]):=by kernel_rfl
theorem Jba (k:Nat):Vu (pg k) "size" 0 "Duty"=Za (Jc9 k,[]):=by kernel_rfl
theorem XI (k:Nat):Vu (pg k) "work" 1 "Duty"=Za (Jda k,[]):=by kernel_rfl
theorem Jev (k:Nat):Vu (pg k) "reordered" 1 "Duty"=Za (Jal k,[]):=by kernel_rfl
end LW
section
open PySem L2 L3 L4
local macro_rules | `(tactic| simp! [$xs,*]) => `(tactic| simp (implicitDefEqProofs := Zh) only [Jmx, Jrq, Jlh, Jmy, Jua, Jiu, Jli, Jit, Jmv, Jro, Jlg, Jrr, Jmw, QI, Js, QZ, Qr, Jr7, Jvy, Vo, Jt9, Jq7, Jyj, Jx9, Jld, Jmt, Jis, Yq, Jfp, Jla, V6, Jmu, VR, Ql, Yp, Jx2, Jrj, Jmn, Jiq, Jir, VT, Jrb, Jml, Jrl, Jrg, Jmr, Jin, Jmq, VS, Jim, Jyd, Jyb, Jx8, Jx7, Jx6, Jyh, Jq9, Jrh, Jq8, Jle, Jri, Jmm, Jyi, Jio, Xv, Xy, Jlc, Jrc, Jre, Jrd, Jms, Jip, Zc9, Zb4, Za2, ZS, Za3, exists_eq_left, exists_eq_left', IV.bl.injEq, IV.int.injEq, IV.ref.injEq, IV.str.injEq, IX.lst.injEq, IV.tup.injEq, ZaB, Zcw, Zcj, reduceCtorEq, eq_self, true_implies, false_implies, implies_true, and_true, true_and, and_false, false_and, Zb3, Zb5, Zac, Yi, Ye, Yj, Yf, Yg, Yh, Vf, Ve, Vr, Qg, Vq, Vg, VQ, Xx, Vh, Vt, XD, V9, Yo, Ym, Yn, $xs,*])
local macro_rules | `(tactic| simp_all! [$xs,*]) => `(tactic| try simp (implicitDefEqProofs := Zh) only [Jmx, Jrq, Jlh, Jmy, Jua, Jiu, Jli, Jit, Jmv, Jro, Jlg, Jrr, Jmw, QI, Js, QZ, Qr, Jr7, Jvy, Vo, Jt9, Jq7, Jyj, Jx9, Jld, Jmt, Jis, Yq, Jfp, Jla, V6, Jmu, VR, Ql, Yp, Jx2, Jrj, Jmn, Jiq, Jir, VT, Jrb, Jml, Jrl, Jrg, Jmr, Jin, Jmq, VS, Jim, Jyd, Jyb, Jx8, Jx7, Jx6, Jyh, Jq9, Jrh, Jq8, Jle, Jri, Jmm, Jyi, Jio, Xv, Xy, Jlc, Jrc, Jre, Jrd, Jms, Jip, Zc9, Zb4, Za2, ZS, Za3, exists_eq_left, exists_eq_left', IV.bl.injEq, IV.int.injEq, IV.ref.injEq, IV.str.injEq, IX.lst.injEq, IV.tup.injEq, ZaB, Zcw, Zcj, reduceCtorEq, eq_self, true_implies, false_implies, implies_true, and_true, true_and, and_false, false_and, Zb3, Zb5, Zac, Yi, Ye, Yj, Yf, Yg, Yh, Vf, Ve, Vr, Qg, Vq, Vg, VQ, Xx, Vh, Vt, XD, V9, Yo, Ym, Yn, $xs,*])
local macro_rules | `(tactic| dsimp! [$xs,*]) => `(tactic| simp (implicitDefEqProofs := Zh) only [Jmx, Jrq, Jlh, Jmy, Jua, Jiu, Jli, Jit, Jmv, Jro, Jlg, Jrr, Jmw, QI, Js, QZ, Qr, Jr7, Jvy, Vo, Jt9, Jq7, Jyj, Jx9, Jld, Jmt, Jis, Yq, Jfp, Jla, V6, Jmu, VR, Ql, Yp, Jx2, Jrj, Jmn, Jiq, Jir, VT, Jrb, Jml, Jrl, Jrg, Jmr, Jin, Jmq, VS, Jim, Jyd, Jyb, Jx8, Jx7, Jx6, Jyh, Jq9, Jrh, Jq8, Jle, Jri, Jmm, Jyi, Jio, Xv, Xy, Jlc, Jrc, Jre, Jrd, Jms, Jip, Zc9, Zb4, Za2, ZS, Za3, $xs,*])
namespace LW
open PySem L2 L3 L4
section
variable {k:Nat}{h:IH}
theorem JC:1000000<sizeLine:=by decide
theorem Jk3 (o o':IX):List.set (h++[o]) h.length o'=h++[o']:=by
 rw[ZcU _ _ (Zr _),ZeJ];rfl
theorem V1 (o o':IX)(g:IH):List.set (h++o::g) h.length o'=h++o'::g:=by
 rw[ZcU _ _ (Zr _),ZeJ];rfl
end
section
seal L4.run
section
variable {α β:Type}{σ:ISt}{h h1:IH}{N:ISt->IH->Prop}{R:IV->IH->Prop}{P:IV->IH->Prop}
theorem xb {r:Res α}{f:α->IH->Res β}{Q:β->IH->Prop}(x:WR r λ a h=>WR (f a h) Q):WR (r.bind f) Q:=(Js ..).mpr x
theorem xseq {a b:S1}(x:WS (a σ h) (λ σ1 h1=>WS (b σ1 h1) N R) R):WS (Je a b σ h) N R:=(Jmx ..).mpr x
theorem xfin {r:SRes}(x:WS r (λ _ h=>P .non h) P):WR r.fin P:=(Jmm ..).mpr x
theorem xset {i:Nat}{e:E1}(x:WR (e σ h) λ v h1=>N (σ.set i (Za v)) h1):WS (Jk i e σ h) N R:=(Jmy ..).mpr x
theorem xret {e:E1}(x:WR (e σ h) R):WS (Jm e σ h) N R:=(Jiu ..).mpr x
theorem Juf {e:E1}(x:WR (e σ h) λ _ h1=>N σ h1):WS (JO e σ h) N R:=(Jit ..).mpr x
theorem xif {t:T1}{a b:S1}(x:WR (t σ h) λ c h1=>(c=Zd->WS (a σ h1) N R)/\(c=Zh->WS (b σ h1) N R)):WS (sIf t a b σ h) N R:=(Jua ..).mpr x
theorem xtor {a b:T1}{Q:Bool->IH->Prop}(x:WR (a σ h) λ c h1=>(c=Zd->Q Zd h1)/\(c=Zh->WR (b σ h1) Q)):WR (tOrI a b σ h) Q:=(Jmt ..).mpr x
theorem xdec {p:Prop}[Decidable p]{a b:Prop}(x:p->a)(y:¬p->b):(decide p=Zd->a)/\(decide p=Zh->b):=⟨λ e=>x (of_decide_eq_true e),λ e=>y (of_decide_eq_false e)⟩
theorem xnil (x:N σ h):WS (Jv σ h) N R:=x
theorem xtup {a:A1}(x:WR (a σ h) λ xs h1=>xs.length<=sizeLine/\P (.tup xs) h1):WR (eTup a σ h) P:=(Jmu ..).mpr x
theorem xlst {a:A1}(x:WR (a σ h) λ xs h1=>xs.length<=sizeLine/\P (.ref h1.length) (h1++[.lst xs])):WR (eLst a σ h) P:=(VR ..).mpr x
theorem xixl {i:Nat}{n:Int}{xs:List IV}{x:IV}(g:h[i]?=Za (.lst xs))(e:atI xs n=Za x)(q:P x h):WR (Jh (.ref i) (.int n) h) P:=(VP ..).mpr ⟨_,g,_,e,q⟩
theorem xixt {n:Int}{xs:List IV}{x:IV}(e:atI xs n=Za x)(q:P x h):WR (Jh (.tup xs) (.int n) h) P:=(VQ ..).mpr ⟨_,e,q⟩
theorem J26 {i:Nat}{xs:List IV}(g:h[i]?=Za (.lst xs))(q:P (.int xs.length) h):WR (lenI (.ref i) h) P:=(Yl ..).mpr ⟨_,g,q⟩
theorem xmod {i j:Int}(l:0<j)(q:P (.int (i%j)) h):WR (J7 (.int i) (.int j) h) P:=(Jmq ..).mpr ⟨l,q⟩
theorem J25 {i j:Int}(l:0<j/\j.natAbs.log2<9000)(q:P (.int (i/j)) h):WR (JJ (.int i) (.int j) h) P:=(Jin ..).mpr ⟨l,q⟩
theorem xmul {i j:Int}(l:Qt i j)(q:P (.int (i*j)) h):WR (JL (.int i) (.int j) h) P:=(Jmr ..).mpr ⟨l,q⟩
theorem binE {f:IV->IV->IH->Res IV}{a b:E1}{x y:IV}{h2:IH}(ea:a σ h=.ok x h1)(eb:b σ h1=.ok y h2):Jc f a b σ h=f x y h2:=by unfold Jc;rw[ea];dsimp only[Res.bind];rw[eb]
theorem arg1 {a:E1}{x:IV}(ea:a σ h=.ok x h1):Jb a Jd σ h=.ok [x] h1:=by unfold Jb;rw[ea];rfl
theorem arg2 {a b:E1}{x y:IV}{h2:IH}(ea:a σ h=.ok x h1)(eb:b σ h1=.ok y h2):Jb a (Jb b Jd) σ h=.ok [x,y] h2:=by unfold Jb;rw[ea];dsimp only[Res.bind];rw[eb];rfl
theorem cbE {f:List IV->IH->Res IV}{a:A1}{xs:List IV}(ea:a σ h=.ok xs h1):eCB f a σ h=f xs h1:=by unfold eCB;rw[ea];rfl
theorem Jyw {f:List IV->IH->Res IV}{d:List IV}{a:A1}{xs:List IV}{v:IV}{h2:IH}(ea:a σ h=.ok xs h1)(ef:f (xs++d) h1=.ok v h2):Jn f d a σ h=.ok v h2:=by unfold Jn;rw[ea];exact ef
theorem tofE {a:E1}{c:Bool}(ea:a σ h=.ok (.bl c) h1):Ji asB a σ h=.ok c h1:=by unfold Ji;rw[ea];rfl
theorem lenE {a:E1}{i:Nat}{xs:List IV}(ea:a σ h=.ok (.ref i) h1)(g:h1[i]?=Za (.lst xs)):eCB (on1 lenI) (Jb a Jd) σ h=.ok (.int xs.length) h1:=by
 rw[cbE (arg1 ea)]
 exact Jz (J26 g ⟨rfl,rfl⟩)
theorem ixlE {a b:E1}{i:Nat}{n:Int}{xs:List IV}{x:IV}{h2:IH}(ea:a σ h=.ok (.ref i) h1)(eb:b σ h1=.ok (.int n) h2)(g:h2[i]?=Za (.lst xs))(e:atI xs n=Za x):Jc Jh a b σ h=.ok x h2:=by
 rw[binE ea eb]
 exact Jz (xixl g e ⟨rfl,rfl⟩)
theorem ixtE {a b:E1}{n:Int}{xs:List IV}{x:IV}{h2:IH}(ea:a σ h=.ok (.tup xs) h1)(eb:b σ h1=.ok (.int n) h2)(e:atI xs n=Za x):Jc Jh a b σ h=.ok x h2:=by
 rw[binE ea eb]
 exact Jz (xixt e ⟨rfl,rfl⟩)
theorem gtE {a b:E1}{i j:Int}{h2:IH}(ea:a σ h=.ok (.int i) h1)(eb:b σ h1=.ok (.int j) h2):Ji asB (Jc cGt a b) σ h=.ok (decide (j<i)) h2:=tofE (binE ea eb)
theorem ltE {a b:E1}{i j:Int}{h2:IH}(ea:a σ h=.ok (.int i) h1)(eb:b σ h1=.ok (.int j) h2):Ji asB (Jc cLt a b) σ h=.ok (decide (i<j)) h2:=tofE (binE ea eb)
theorem geE {a b:E1}{i j:Int}{h2:IH}(ea:a σ h=.ok (.int i) h1)(eb:b σ h1=.ok (.int j) h2):Ji asB (Jc cGe a b) σ h=.ok (decide (j<=i)) h2:=tofE (binE ea eb)
theorem eqE {a b:E1}{i j:Int}{h2:IH}(ea:a σ h=.ok (.int i) h1)(eb:b σ h1=.ok (.int j) h2):Ji asB (Jc cEq a b) σ h=.ok (decide (i=j)) h2:=tofE (binE ea eb)
theorem addE {a b:E1}{i j:Int}{h2:IH}(ea:a σ h=.ok (.int i) h1)(eb:b σ h1=.ok (.int j) h2):Jc Jo a b σ h=.ok (.int (i+j)) h2:=binE ea eb
theorem subE {a b:E1}{i j:Int}{h2:IH}(ea:a σ h=.ok (.int i) h1)(eb:b σ h1=.ok (.int j) h2):Jc JN a b σ h=.ok (.int (i-j)) h2:=binE ea eb
theorem arg3 {a b c:E1}{x y z:IV}{h2 h3:IH}(ea:a σ h=.ok x h1)(eb:b σ h1=.ok y h2)(ec:c σ h2=.ok z h3):Jb a (Jb b (Jb c Jd)) σ h=.ok [x,y,z] h3:=by
 rw[show Jb a (Jb b (Jb c Jd)) σ h=(a σ h).bind λ x h1=>(Jb b (Jb c Jd) σ h1).bind λ xs h2=>.ok (x::xs) h2 from rfl,ea]
 show(Jb b (Jb c Jd) σ h1).bind _=_
 rw[arg2 eb ec]
 rfl
theorem arg4 {a b c d:E1}{x y z u:IV}{h2 h3 h4:IH}(ea:a σ h=.ok x h1)(eb:b σ h1=.ok y h2)(ec:c σ h2=.ok z h3)(ed:d σ h3=.ok u h4):Jb a (Jb b (Jb c (Jb d Jd))) σ h=.ok [x,y,z,u] h4:=by
 rw[show Jb a (Jb b (Jb c (Jb d Jd))) σ h=(a σ h).bind λ x h1=>(Jb b (Jb c (Jb d Jd)) σ h1).bind λ xs h2=>.ok (x::xs) h2 from rfl,ea]
 show(Jb b (Jb c (Jb d Jd)) σ h1).bind _=_
 rw[arg3 eb ec ed]
 rfl
theorem modE {a b:E1}{i j:Int}{h2:IH}(ea:a σ h=.ok (.int i) h1)(eb:b σ h1=.ok (.int j) h2)(l:0<j):Jc J7 a b σ h=.ok (.int (i%j)) h2:=(binE ea eb).trans (Jz (xmod l ⟨rfl,rfl⟩))
theorem QL {a b:E1}{i j:Int}{h2:IH}(ea:a σ h=.ok (.int i) h1)(eb:b σ h1=.ok (.int j) h2)(l:0<j)(z:j.natAbs.log2<9000):Jc JJ a b σ h=.ok (.int (i/j)) h2:=(binE ea eb).trans (Jz (J25 ⟨l,z⟩ ⟨rfl,rfl⟩))
theorem mulE {a b:E1}{i j:Int}{h2:IH}(ea:a σ h=.ok (.int i) h1)(eb:b σ h1=.ok (.int j) h2)(l:Qt i j):Jc JL a b σ h=.ok (.int (i*j)) h2:=(binE ea eb).trans (Jz (xmul l ⟨rfl,rfl⟩))
theorem lstE {a:A1}{xs:List IV}(ea:a σ h=.ok xs h1)(l:Nat.ble xs.length 1000=Zd):eLst a σ h=.ok (.ref h1.length) (h1++[.lst xs]):=Jz (xlst (Jg ea ⟨Zal (Zen l) (Zal (by decide) (ZcF JC)),rfl,rfl⟩))
theorem tupE {a:A1}{xs:List IV}(ea:a σ h=.ok xs h1)(l:Nat.ble xs.length 1000=Zd):eTup a σ h=.ok (.tup xs) h1:=Jz (xtup (Jg ea ⟨Zal (Zen l) (Zal (by decide) (ZcF JC)),rfl,rfl⟩))
theorem pkE {a:A1}{b:E1}{n:Int}{xs:List IV}{x:IV}(ea:a σ h=.ok xs h1)(l:Nat.ble xs.length 1000=Zd)(eb:b σ (h1++[.lst xs])=.ok (.int n) (h1++[.lst xs]))(e:atI xs n=Za x):Jc Jh (eLst a) b σ h=.ok x (h1++[.lst xs]):=ixlE (lstE ea l) eb Jq e
theorem minE {a b:E1}{i j:Int}{h2:IH}(ea:a σ h=.ok (.int i) h1)(eb:b σ h1=.ok (.int j) h2):eCB (on2 minI) (Jb a (Jb b Jd)) σ h=.ok (.int (if j<i then j else i)) h2:=cbE (arg2 ea eb)
theorem xifd {t:T1}{a b:S1}{p:Prop}[Decidable p](e:t σ h=.ok (decide p) h1)(x:p->WS (a σ h1) N R)(y:¬p->WS (b σ h1) N R):WS (sIf t a b σ h) N R:=xif (Jg e (xdec x y))
theorem xiff {t:T1}{a b:S1}(e:t σ h=.ok Zh h1)(x:WS (b σ h1) N R):WS (sIf t a b σ h) N R:=xif (Jg e ⟨(λ z=>by cases z),λ _=>x⟩)
theorem xift {t:T1}{a b:S1}(e:t σ h=.ok Zd h1)(x:WS (a σ h1) N R):WS (sIf t a b σ h) N R:=xif (Jg e ⟨λ _=>x,λ z=>by cases z⟩)
theorem xnx {r:SRes}{σ1:ISt}(e:r=.next σ1 h1)(x:N σ1 h1):WS r N R:=by rw[e];exact x
theorem okc {α:Type}{r:Res α}{c d:α}(e:r=.ok c h)(q:c=d):r=.ok d h:=q▸e
theorem isiE {ans:Ty->Option Bool}{a:E1}{v:IV}{b:Bool}(ea:a σ h=.ok v h1)(t:(tyI v h1).bind ans=Za b):eIsi ans a σ h=.ok (.bl b) h1:=Jz ((Jmn ..).mpr (Jg ea ⟨b,t,rfl,rfl⟩))
theorem notE {a:T1}{c:Bool}(e:a σ h=.ok c h1):JA a σ h=.ok (!c) h1:=by unfold JA;rw[e];rfl
theorem truE {a:E1}{c:Bool}(e:a σ h=.ok (.bl c) h1):Ji tru a σ h=.ok c h1:=by unfold Ji;rw[e];rfl
theorem orF {a b:T1}{r:Res Bool}(e:a σ h=.ok Zh h1)(eb:b σ h1=r):tOrI a b σ h=r:=by unfold tOrI;rw[e];exact eb
theorem Jy2 {a b:E1}{r:Res IV}(e:a σ h=.ok (.bl Zd) h1)(eb:b σ h1=r):eAnd a b tru σ h=r:=by unfold eAnd;rw[e];exact eb
theorem xrng {e:E1}{g:G1}{b:S1}{n:Nat}(ee:e σ h=.ok (.int (n:Int)) h1)(l:n<1000000)(x:WS (JY (λ _=>True) g b (rngI 0 (n:Int)) σ h1) N R):WS (sFor (iRg JR (Jb e Jd)) g b σ h) N R:=by
 rw[Jmw,Xv]
 refine Jg (arg1 ee) ?_
 rw[Xy]
 exact⟨by omega,x⟩
theorem J18 {a:E1}{i:Nat}{xs:List IV}(ea:a σ h=.ok (.ref i) h1)(g:h1[i]?=Za (.lst xs)):eCB (on1 Qq) (Jb a Jd) σ h=.ok (.ref h1.length) (h1++[.lst xs]):=by
 rw[cbE (arg1 ea)]
 exact Jz ((Jmp ..).mpr ⟨_,g,rfl,rfl⟩)
theorem Yr {f c:Str}{fs:List (Str×IV)}{i:Nat}{o e:E1}{v:IV}(ev:e σ h=.ok v h1)(eo:o σ h1=.ok (.ref i) h1)(g:h1[i]?=Za (.ins c fs))(l:fs.length<1000)(q:N σ (h1.set i (.ins c (putI f v fs)))):WS (Qz f o e σ h) N R:=by
 rw[Jlf]
 exact Jg ev (Jg eo ⟨i,c,fs,rfl,g,l,q⟩)
theorem Jue {Pg:Pg}{m:Str}{n i:Nat}{o:E1}{a:A1}{xs:List IV}{g:IV->List IV->IH->Res IV}(e:o σ h=.ok (.ref i) h1)(hl:h1[i]?=Za (.lst xs))(hg:bmOf "list" m n=Za g)(x:WR (a σ h1) λ vs h2=>WR (g (.ref i) vs h2) P):WR (J0 Pg m n o a σ h) P:=(Yk e hl hg).mpr x
theorem xapp {i:Nat}{y:IV}{xs:List IV}(g:h[i]?=Za (.lst xs))(l:xs.length<sizeLine)(q:P .non (h.set i (.lst (xs++[y])))):WR (V8 (.ref i) [y] h) P:=(Jgr ..).mpr ⟨_,g,l,q⟩
theorem xrem {i j:Nat}{k:Int}{ns:List Int}(g:h[i]?=Za (.lst (ns.map .int)))(l:ns.findIdx? (· ==k)=Za j)(q:P .non (h.set i (.lst ((ns.map IV.int).eraseIdx j)))):WR (Xk (.ref i) [.int k] h) P:=by
 have e:XU (.ref i) h=Za (i,ns.map .int):=by unfold XU;simp only[g]
 unfold Xk
 rw[e]
 dsimp only
 rw[VC]
 dsimp only
 rw[l]
 exact q
theorem Joo:bmOf "list" "remove" 1=Za Xk:=by kernel_rfl
end
end
section
seal L4.run
section
variable {k:Nat}{h:IH}
theorem Je8 (i:Int):Jcy (k+1) [.int i] h=.ok (.bl Zd) h:=by rw[Jkr];rfl
theorem Je1 (i j:Int):Va (k+2) [.int i,.int j] h=.ok (.bl (decide (j<=i))) h:=by
 refine Jz ?_
 rw[Jfb]
 simp! [Jbe,Je8]
def IsNm (x:Str):Prop:=1<=x.length/\x.length<=8/\∀c∈x.cps.toList,97<=c/\c<=122
theorem J1o:(Zar "a").cps.toList=[97]:=by decide +kernel
theorem J27:(Zar "z").cps.toList=[122]:=by decide +kernel
theorem Jxo {c:Nat}(hc:97<=c/\c<=122):Jbm k [Za (.str ⟨#[c]⟩)] h=.ok (.bl Zd) h:=by
 refine Jz ?_
 have h1:¬([c]<[97]):=λ q=>by
  cases q with
  | rel q=>omega
  | cons q=>cases q
 have h2:¬([122]<[c]):=λ q=>by
  cases q with
  | rel q=>omega
  | cons q=>cases q
 simp only[Jbm,Jfp,Qr,Jr7,QZ,J1f,J1o,J27,h1,h2,decide_false,exists_eq_left,exists_eq_left',IV.bl.injEq,IV.int.injEq,IV.ref.injEq,IV.str.injEq,IX.lst.injEq,IV.tup.injEq,ZaB,Zcw,Zcj,reduceCtorEq,eq_self,true_implies,false_implies,implies_true,and_true,true_and,and_false,false_and,Zb3,Zb5,Zac,Yi,Ye,Yj,Yf,Yg,Yh,Vf,Ve,Vr,Qg,Vq,Vg,VQ,Xx,Vh,Vt,XD,V9,Yo,Ym,Yn]
theorem Jhg {x:Str}(hx:IsNm x):WR (Jdj (k+1) [.str x] h) λ v h'=>v=.bl Zd/\Ex h h':=by
 obtain⟨h1,h2,h3⟩:=hx
 have hb:=JC
 have hz:x.length<=sizeLine:=by omega
 have a1:(1:Int)<=x.length:=by omega
 have a2:(x.length:Int)<=8:=by omega
 rw[Jnb]
 simp! [Jfz,Jf0,hz,a1,a2,decide_true]
 refine WR.mono (Qm (xs:=QW x) (chk:=λ _=>True) (f:=λ _=>.bl Zd) (h:=h) ?_ ?_ (λ _ _=>trivial) ?_) ?_
 ·exact⟨rfl,rfl,rfl⟩
 ·have:(QW x).length=x.length:=by simp[QW,Str.length]
  omega
 ·intro v hv h2 _
  obtain⟨c,hc,rfl⟩:=Zz.mp hv
  exact Jg (Jxo (h3 c hc)) ⟨rfl,.refl _⟩
 ·rintro v h' ⟨rfl,g,rfl⟩
  refine Jg (all_map (f:=λ _=>Zd) Jx) ⟨?_,.cons ..⟩
  simp
abbrev Hd:=Str×Int×Int
def tupH (a:Hd):IV:=.tup [.str a.1,.int a.2.1,.int a.2.2]
def HdOk (len:Int)(a:Hd):Prop:=IsNm a.1/\0<=a.2.1/\a.2.1<a.2.2/\a.2.2<len
def Tog (a b:Hd):Prop:=a.2.2<=b.2.1∨b.2.2<=a.2.1∨(a.1≠b.1/\((b.2.1<=a.2.1/\a.2.2<=b.2.2)∨(a.2.1<=b.2.1/\b.2.2<=a.2.2)))
theorem Jnk {a:Hd}{len:Int}(ha:HdOk len a):WR (Jfs (k+3) [tupH a,.int len] h) λ v h'=>v=.bl Zd/\Ex h h':=by
 obtain⟨h1,h2,h3,h4⟩:=ha
 rw[Jna]
 have h5:a.2.1+1<=a.2.2:=by omega
 simp! [Jfw,Jfx,Jfy,tupH,ZB,Zau,Je1]
 refine⟨λ q=>absurd q (by decide),λ _=>WR.mono (Jhg h1) ?_⟩
 rintro v h' ⟨rfl,x⟩
 simp! [decide_eq_true h2,decide_eq_true h4,decide_eq_true h5]
 exact x
theorem Jjs (a b:Hd):Jde (k+1) [tupH a,tupH b] h=.ok (.bl (decide (a.2.2<=b.2.1)||decide (b.2.2<=a.2.1))) h:=by
 refine Jz ?_
 rw[Jjj]
 simp! [Jdy,tupH]
 cases decide (a.2.2<=b.2.1)<;>simp
theorem Jnm (a b:Hd):Jdk (k+1) [tupH a,tupH b] h=.ok (.bl (decide (b.2.1<=a.2.1)&&decide (a.2.2<=b.2.2))) h:=by
 refine Jz ?_
 rw[Jnc]
 simp! [Jf1,tupH]
 cases decide (b.2.1<=a.2.1)<;>simp
theorem Jgy {a b:Hd}(t:Tog a b):Jbi (k+2) [tupH a,tupH b] h=.ok (.bl Zd) h:=by
 refine Jz ?_
 rw[Jgv]
 have ix:∀a:Hd,WR (Jh (tupH a) (.int 0) h)=λ P=>P (.str a.1) h:=λ a=>by
  funext P
  simp only[tupH,VQ,exists_eq_left,exists_eq_left',IV.bl.injEq,IV.int.injEq,IV.ref.injEq,IV.str.injEq,IX.lst.injEq,IV.tup.injEq,ZaB,Zcw,Zcj,reduceCtorEq,eq_self,true_implies,false_implies,implies_true,and_true,true_and,and_false,false_and,Zb3,Zb5,Zac,Yi,Ye,Yj,Yf,Yg,Yh,Vf,Ve,Vr,Qg,Vq,Vg,VQ,Xx,Vh,Vt,XD,V9,Yo,Ym,Yn]
 simp! [Jcg,Jch,Jci,Jjs,Jnm,ix]
 unfold Tog at t
 simp only[Za4,Zdd,Zl,Bool.and_eq_false_iff,decide_eq_true_eq,decide_eq_false_iff_not]
 grind
theorem Jk6 {hs:List Hd}{i:Nat}(hi:h[i]?=Za (.lst (hs.map tupH)))(hl:hs.length<=6)(ht:∀m n (hm:m<n)(hn:n<hs.length),Tog hs[n] hs[m]) :
  WR (Jaf (k+3) [.ref i] h) λ v h'=>v=.bl Zd/\Ex h h':=by
 have hb:=JC
 rw[Jei]
 simp! [Jaw,Jax,Jx5,hi]
 refine Q5 (λ n σ h'=>(∃a b,σ=[Za (.ref i),a,b])/\Ex h h') (λ n σ h' ⟨_,x⟩=>x.get hi) ?_ ?_ ⟨⟨_,_,rfl⟩,.refl h⟩
 ·rintro n hn _ h' ⟨⟨a,b,rfl⟩,x⟩
  have hn':n<hs.length:=by rw[XQ,Zp] at hn;exact hn
  rw[Jv0]
  simp! [Za8,Jrp,Jym,Jyn,ZB,Zau,Jas]
  have hi':=x.get hi
  refine WR.mono (Qm (xs:=(hs.map tupH).take n) (chk:=λ h2=>h2[h'.length]?=Za (.lst ((hs.map tupH).take n))) (f:=λ _=>.bl Zd) (h:=h'++[.lst ((hs.map tupH).take n)]) ?_ ?_ ?_ ?_) ?_
  ·simp! [VU,hi',JP,Jfg,Jq]
  ·simp only[ZN,Zp];omega
  ·exact λ h2 q=>q _ _ Jq
  ·intro v hv h2 q
   obtain⟨j,hj,rfl⟩:=Zaw.mp hv
   have hj':j<n:=by simp at hj;omega
   simp! [Zcd,Za8,Jaj,Zu,Zaz,ZY,Zag,ZaW]
   exact Jg (Jgy (ht j n hj' hn')) ⟨rfl,.refl _⟩
  ·rintro v h3 ⟨rfl,g,rfl⟩
   refine Jg (all_map (f:=λ _=>Zd) Jx) ?_
   have:(((hs.map tupH).take n).all λ _=>Zd)=Zd:=by simp
   simp! [this]
   exact⟨⟨_,_,rfl⟩,x.trans ((Ex.one _ _).trans (.cons ..))⟩
 ·rintro _ h' ⟨⟨a,b,rfl⟩,x⟩
  exact x
structure HsOk (len:Int)(hs:List Hd):Prop where
 few:hs.length<=6
 each:∀a∈hs,HdOk len a
 tog:∀m n (hm:m<n)(hn:n<hs.length),Tog hs[n] hs[m]
theorem Jjv {hs:List Hd}{i:Nat}{len:Int}(hi:h[i]?=Za (.lst (hs.map tupH)))(ok:HsOk len hs) :
  WR (X9 (k+4) [.ref i,.int len] h) λ v h'=>v=.tup (hs.map tupH)/\Ex h h':=by
 have hb:=JC
 have hl:=ok.few
 have h6:¬(6:Int)<(hs.length:Int):=by omega
 rw[Jjk]
 simp! [Jdz,Jd0,Jd1,Jd2,Xw,isI,Xs hi,Yl,hi,Zp,h6,decide_false]
 refine WR.mono (Qm (xs:=hs.map tupH) (chk:=λ h2=>h2[i]?=Za (.lst (hs.map tupH))) (f:=λ _=>.bl Zd) (h:=h) ?_ ?_ ?_ ?_) ?_
 ·simp! [JP,hi]
 ·simp only[Zp];omega
 ·exact λ h2 q=>q _ _ hi
 ·intro v hv h2 q
  obtain⟨a,ha,rfl⟩:=Zz.mp hv
  simp! [Jcs,Zu,Zaz,ZY,Zag,ZaW]
  exact Jnk (ok.each a ha)
 ·rintro v h1 ⟨rfl,g,rfl⟩
  refine Jg (all_map (f:=λ _=>Zd) Jx) ?_
  have:((hs.map tupH).all λ _=>Zd)=Zd:=by simp
  simp! [this,Jd3,Jd4]
  have x1:Ex h (h++IX.lst (List.map (λ x=>IV.bl Zd) (hs.map tupH))::g):=.cons ..
  refine WR.mono (Jk6 (x1.get hi) hl ok.tog) ?_
  rintro v h2 ⟨rfl,x2⟩
  simp! [true_and]
  have hi2:=x2.get (x1.get hi)
  refine WR.mono (Qm (xs:=hs.map tupH) (chk:=λ h3=>h3[i]?=Za (.lst (hs.map tupH))) (f:=λ x=>x) (h:=h2) ?_ ?_ ?_ ?_) ?_
  ·simp! [JP,hi2]
  ·simp only[Zp];omega
  ·exact λ h2 q=>q _ _ hi2
  ·intro v hv h3 q
   obtain⟨a,ha,rfl⟩:=Zz.mp hv
   simp! [Jct,tupH,ZB,Zau]
   exact⟨by omega,.refl _⟩
  ·rintro v h3 ⟨rfl,g3,rfl⟩
   simp only[Jrn,Jx,exists_eq_left,exists_eq_left',IV.bl.injEq,IV.int.injEq,IV.ref.injEq,IV.str.injEq,IX.lst.injEq,IV.tup.injEq,ZaB,Zcw,Zcj,reduceCtorEq,eq_self,true_implies,false_implies,implies_true,and_true,true_and,and_false,false_and,Zb3,Zb5,Zac,Yi,Ye,Yj,Yf,Yg,Yh,Vf,Ve,Vr,Qg,Vq,Vg,VQ,Xx,Vh,Vt,XD,V9,Yo,Ym,Yn,List.map_id']
   exact x1.trans (x2.trans (.cons ..))
theorem Jnt {due gap:Int}(h1:1<=due)(h2:due<=gap):X8 (k+3) [.int due,.int gap] h=.ok (.int due) h:=by
 refine Jz ?_
 rw[Jnd]
 have:¬gap<due:=by omega
 simp! [Jf2,Jf3,Jf4,Xw,isI,Je1,decide_eq_true h1,decide_eq_false this]
def wfs (name:Str)(gap len due late:Int)(hs:List IV):List (Str×IV):=[("name",.str name),("gap",.int gap),("length",.int len),("due",.int due),("late",.int late),("hold_tuples",.tup hs)]
section
variable (a b c d e f:IV)
theorem put0:putI "name" a ([]:List (Str×IV))=([("name",a)]:List (Str×IV)):=by kernel_rfl
theorem put1:putI "gap" b ([("name",a)]:List (Str×IV))=([("name",a),("gap",b)]:List (Str×IV)):=by kernel_rfl
theorem put2:putI "length" c ([("name",a),("gap",b)]:List (Str×IV))=([("name",a),("gap",b),("length",c)]:List (Str×IV)):=by kernel_rfl
theorem put3:putI "due" d ([("name",a),("gap",b),("length",c)]:List (Str×IV))=([("name",a),("gap",b),("length",c),("due",d)]:List (Str×IV)):=by kernel_rfl
theorem put4:putI "late" e ([("name",a),("gap",b),("length",c),("due",d)]:List (Str×IV))=([("name",a),("gap",b),("length",c),("due",d),("late",e)]:List (Str×IV)):=by kernel_rfl
theorem put5:putI "hold_tuples" f ([("name",a),("gap",b),("length",c),("due",d),("late",e)]:List (Str×IV))=([("name",a),("gap",b),("length",c),("due",d),("late",e),("hold_tuples",f)]:List (Str×IV)):=by kernel_rfl
variable {name:Str}{gap len due late:Int}{hs:List IV}
theorem fl0:(wfs name gap len due late hs).lookup ("name":Str)=Za (.str name):=by kernel_rfl
theorem fl1:(wfs name gap len due late hs).lookup ("gap":Str)=Za (.int gap):=by kernel_rfl
theorem fl2:(wfs name gap len due late hs).lookup ("length":Str)=Za (.int len):=by kernel_rfl
theorem fl3:(wfs name gap len due late hs).lookup ("due":Str)=Za (.int due):=by kernel_rfl
theorem fl4:(wfs name gap len due late hs).lookup ("late":Str)=Za (.int late):=by kernel_rfl
theorem fl5:(wfs name gap len due late hs).lookup ("hold_tuples":Str)=Za (.tup hs):=by kernel_rfl
theorem flh:(wfs name gap len due late hs).lookup ("held":Str)=Zc:=by kernel_rfl
end
theorem Jq6 {name:Str}{gap len due late:Int}{dv hv:IV}{hs:List IV}{w:Nat}(hw:h[w]?=Za (.ins "Work" []))(hn:IsNm name)(hg:1<=gap)(hl:1<=len)(ht:0<=late)
  (hd:∀h1,X8 (k+4) [dv,.int gap] h1=.ok (.int due) h1)(hh:∀h1:IH,(∀(j:Nat)(o:IX),j≠w->h[j]?=Za o->h1[j]?=Za o)->WR (X9 (k+4) [hv,.int len] h1) λ v h2=>v=.tup hs/\Ex h1 h2) :
  WR (X2 (k+5) [.ref w,.str name,.int gap,.int len,dv,.int late,hv] h) λ v h'=>v=.non/\∃g,h'=h.set w (.ins "Work" (wfs name gap len due late hs))++g:=by
 rw[Jjf]
 refine xfin (xseq (xif (xb (xb (xb (Jg (arg1 rfl) (WR.mono (Jhg hn) ?_)))))))
 rintro v h1 ⟨rfl,g1,rfl⟩
 have lw:=Qx hw
 have s1:∀{o:IX},(h++g1).set w o=h.set w o++g1:=by intro o;rw[Zbn (h:=lw)]
 have at1:∀{o:IX},(h.set w o++g1)[w]?=Za o:=by
  intro o
  rw[ZC (by rw[Zdj];exact lw),ZU lw]
 have s2:∀{o o':IX},(h.set w o++g1).set w o'=h.set w o'++g1:=by intro o o';rw[Zbn (h:=by rw[Zdj];exact lw),List.set_set]
 have ok:∀{σ:ISt}{e1 e2:E1}{a b:Int}{hh:IH},e1 σ hh=.ok (.int a) hh->e2 σ hh=.ok (.int b) hh->b<=a->JA (Ji tru (Jn (Va (k+4)) [] (Jb e1 (Jb e2 Jd)))) σ hh=.ok Zh hh:=λ h1 h2 l=>okc (notE (truE (Jyw (arg2 h1 h2) (Je1 _ _)))) (by rw[decide_eq_true l];rfl)
 refine Jg rfl (Jg rfl ⟨(λ z=>by cases z),λ _=>xnil (xseq (xiff (ok rfl rfl hg) (xnil (xseq (xiff (ok rfl rfl hl) (xnil (xseq (xiff (ok rfl rfl ht) (xnil (xseq (Yr rfl rfl (grow hw) (by decide) ?_)))))))))))⟩)
 rw[s1,put0]
 refine xseq (Yr rfl rfl at1 (by show(1:Nat)<1000;decide) ?_)
 rw[s2,put1]
 refine xseq (Yr rfl rfl at1 (by show(2:Nat)<1000;decide) ?_)
 rw[s2,put2]
 refine xseq (Yr (Jyw (arg2 rfl rfl) (hd _)) rfl at1 (by show(3:Nat)<1000;decide) ?_)
 rw[s2,put3]
 refine xseq (Yr rfl rfl at1 (by show(4:Nat)<1000;decide) ?_)
 rw[s2,put4]
 unfold Jdt
 rw[Jlf]
 refine xb (Jg (arg2 rfl rfl) (WR.mono (hh _ λ j o hj e=>?_) ?_))
 ·refine grow ?_
  rw[ZX (ZT hj)]
  exact e
 ·rintro v h2 ⟨rfl,g2,rfl⟩
  refine Jg rfl ⟨w,_,_,rfl,grow at1,by show(5:Nat)<1000;decide,rfl,g1++g2,?_⟩
  rw[Zbn (h:=Qx at1),s2,put5,ZF]
  rfl
theorem Jwx {name:Str}{gap len due late:Int}{dv hv:IV}{hs:List IV}(hn:IsNm name)(hg:1<=gap)(hl:1<=len)(ht:0<=late)
  (hd:∀h1,X8 (k+4) [dv,.int gap] h1=.ok (.int due) h1)(hh:∀h1:IH,(∀(j:Nat)(o:IX),h[j]?=Za o->h1[j]?=Za o)->WR (X9 (k+4) [hv,.int len] h1) λ v h2=>v=.tup hs/\Ex h1 h2) :
  WR (X2 (k+5) [.ref h.length,.str name,.int gap,.int len,dv,.int late,hv] (h++[.ins "Work" []])) λ v h'=>v=.non/\∃g,h'=h++.ins "Work" (wfs name gap len due late hs)::g:=by
 refine WR.mono (Jq6 Jq hn hg hl ht hd λ h1 q=>hh h1 λ j o e=>q j o (by have:=Qx e;omega) (grow e)) ?_
 rintro v h' ⟨rfl,g,rfl⟩
 exact⟨rfl,g,by rw[Jk3];simp⟩
end
end
section
variable {k:Nat}{h:IH}
theorem Jki {name:Str}{gap len due late:Int}{hs:List IV}{w:Nat}(hw:h[w]?=Za (.ins "Work" (wfs name gap len due late hs))):Jdb (k+1) [.ref w] h=.ok (.ref h.length) (h++[.lst hs]):=by
 refine Jz ?_
 rw[Jje]
 simp! [Jds,JE hw,fl5]
end
structure WD where
 name:Str
 gap:Int
 len:Int
 due:Int
 late:Int
def IsW (h:IH)(v:IV)(d:WD):Prop:=∃i hs,v=.ref i/\h[i]?=Za (.ins "Work" (wfs d.name d.gap d.len d.due d.late hs))
theorem IsW.kp {h h':IH}{v:IV}{d:WD}(k:Kp h h')(w:IsW h v d):IsW h' v d:=by
 obtain⟨i,hs,e,q⟩:=w
 exact⟨i,hs,e,k _ _ q⟩
structure AllW (h:IH)(vs:List IV)(ds:List WD):Prop where
 len:vs.length=ds.length
 at_:∀(i:Nat) v d,vs[i]?=Za v->ds[i]?=Za d->IsW h v d
theorem AllW.kp {h h':IH}{vs:List IV}{ds:List WD}(k:Kp h h')(w:AllW h vs ds):AllW h' vs ds:=⟨w.len,λ i v d a b=>(w.at_ i v d a b).kp k⟩
theorem AllW.of {h:IH}{vs:List IV}{ds:List WD}(w:AllW h vs ds){v:IV}(hv:v∈vs):∃d∈ds,IsW h v d:=by
 obtain⟨i,hi,rfl⟩:=Zaw.mp hv
 have hi':i<ds.length:=by rw[<- w.len];exact hi
 exact⟨ds[i],ZI hi',w.at_ i _ _ (Zb hi) (Zb hi')⟩
def fOf (f:Str)(h:IH)(v:IV):IV:=(QA f v h).getD .non
theorem AllW.mapF {h:IH}{vs:List IV}{ds:List WD}(w:AllW h vs ds){F:IV->IV}{g:WD->IV}(hf:∀(i:Nat) (d:WD) hs,h[i]?=Za (.ins "Work" (wfs d.name d.gap d.len d.due d.late hs))->F (.ref i)=g d):vs.map F=ds.map g:=by
 refine Zcc λ i=>?_
 rw[Z7,Z7]
 by_cases hi:i<vs.length
 ·have hi':i<ds.length:=by rw[<- w.len];exact hi
  rw[Zb hi,Zb hi']
  obtain⟨j,hs,e,q⟩:=w.at_ i _ _ (Zb hi) (Zb hi')
  simp only[ZbA,ZaB]
  rw[e,hf j _ hs q]
 ·have hi':¬i<ds.length:=by rw[<- w.len];exact hi
  rw[Zb8 (by omega),Zb8 (by omega)]
  rfl
section
variable {k:Nat}{h:IH}
theorem Jtb:Juh ["Work"] (.ins "Work")=Za Zd:=by kernel_rfl
theorem Jjw {vs:List IV}{ds:List WD}{i:Nat}(hi:h[i]?=Za (.lst vs))(w:AllW h vs ds)(nd:(ds.map (·.name)).Nodup)(hl:ds.length<=20) :
  WR (Jdf (k+1) [.ref i] h) λ v h'=>v=.tup vs/\Ex h h':=by
 have hb:=JC
 have wl:=w.len
 rw[Jjl]
 simp! [Jd5,Jd6,Xs hi]
 refine WR.mono (Qm (h:=h) (xs:=vs) (chk:=λ h'=>h'[i]?=Za (.lst vs)) (f:=λ _=>.bl Zd) ?_ (by omega) (λ h2 q=>q _ _ hi) ?_) ?_
 ·simp! [JP,hi]
 ·intro v hv h2 q
  obtain⟨d,_,j,hs,rfl,e⟩:=w.of hv
  have ty:tyI (.ref j) h2=Za (.ins "Work"):=by simp[tyI,q _ _ e]
  simp! [Jcu,ty,Jtb]
  exact .refl _
 ·rintro _ _ ⟨rfl,g,rfl⟩
  have x1:Ex h (h++IX.lst (vs.map λ _=>.bl Zd)::g):=.cons _ _ _
  rw[all_map (f:=λ _=>Zd) Jx]
  generalize h++IX.lst (vs.map λ _=>.bl Zd)::g=h1 at x1
  have at1:(vs.all λ _=>Zd)=Zd:=by simp
  simp! [at1,Jd7,Jrf]
  have w1:=w.kp x1.kp
  have nm:=w1.mapF (F:=fOf "name" h1) (g:=λ d=>.str d.name) λ j d hs e=>by rw[fOf,JE e,fl0];rfl
  refine WR.mono (Qm (h:=h1) (xs:=vs) (chk:=λ h'=>h'[i]?=Za (.lst vs)) (f:=fOf "name" h1) ?_ (by omega) (λ h2 q=>q _ _ (x1.get hi)) ?_) ?_
  ·simp! [JP,x1.get hi]
  ·intro v hv h2 q
   obtain⟨d,_,j,hs,rfl,e⟩:=w1.of hv
   simp! [Jcv,JE (q _ _ e),fl0,fOf,JE e,Zcn]
   exact .refl _
  ·rintro _ _ ⟨rfl,g2,rfl⟩
   rw[nm]
   have em:ds.map (λ d=>IV.str d.name)=(ds.map (·.name)).map IV.str:=by simp
   rw[em]
   have x2:Ex h1 (h1++IX.lst ((ds.map (·.name)).map IV.str)::g2):=.cons _ _ _
   refine⟨_,rfl,_,Jx,ds.map (·.name),Jmf _,by rw[Zp];unfold Zcm;omega,?_⟩
   rw[Ji6 nd _ (Zr _)]
   simp! [Yl,x2.get (x1.get hi),Zp,wl,decide_true,Jd8,Jrn]
   exact x1.trans x2
def rup (top bottom:Int):Int:=(top+bottom-1)/bottom
def topD (ds:List WD):Int:=if ds.map (·.due)=[] then 0 else JZ (λ i=>(ds.map (·.due)).getD i 0) (ds.map (·.due)).length
def Jlr (ds:List WD):Int:=(ds.map λ d=>rup (topD ds+d.late) d.gap).sum
def rOf (T:Int)(h:IH)(v:IV):IV:=match QA "late" v h,QA "gap" v h with
 | some (.int l),Za (.int g)=>.int (rup (T+l) g)
 | _,_=>.non
theorem Jj0 {a b:Int}(hb:0<b)(hl:b.natAbs.log2<9000):Jbl (k+1) [.int a,.int b] h=.ok (.int (rup a b)) h:=by
 refine Jz ?_
 rw[Jjm]
 simp! [Jd9,hb,hl,rup]
theorem Jr1 {vs:List IV}{ds:List WD}(w:AllW h vs ds)(hl:ds.length<=20)(hg:∀d∈ds,0<d.gap/\d.gap.natAbs.log2<9000) :
  WR (Jer (k+2) [.tup vs] h) λ v h'=>v=.int (Jlr ds)/\Ex h h':=by
 have hb:=JC
 have wl:=w.len
 rw[Jkq]
 simp! [Je5,Jyg]
 have dm:=w.mapF (F:=fOf "due" h) (g:=λ d=>.int d.due) λ j d hs e=>by rw[fOf,JE e,fl3];rfl
 refine WR.mono (Qm (h:=h) (xs:=vs) (chk:=λ _=>True) (f:=fOf "due" h) ?_ (by omega) (λ _ _=>trivial) ?_) ?_
 ·simp! [true_and]
 ·intro v hv h2 q
  obtain⟨d,_,j,hs,rfl,e⟩:=w.of hv
  simp! [Jc6,JE (q _ _ e),fl3,fOf,JE e,Zcn]
  exact .refl _
 ·rintro _ _ ⟨rfl,g,rfl⟩
  rw[dm]
  have em:ds.map (λ d=>IV.int d.due)=(ds.map (·.due)).map IV.int:=by simp
  rw[em]
  have x1:Ex h (h++IX.lst ((ds.map (·.due)).map IV.int)::g):=.cons _ _ _
  refine⟨_,rfl,_,Jx,_,VC _,?_⟩
  have et:maxD (ds.map (·.due)) (.int 0)=.int (topD ds):=by
   unfold maxD topD
   split<;>rfl
  rw[et]
  generalize h++IX.lst ((ds.map (·.due)).map IV.int)::g=h1 at x1
  have w1:=w.kp x1.kp
  simp! [Je6]
  have rm:=w1.mapF (F:=rOf (topD ds) h1) (g:=λ d=>.int (rup (topD ds+d.late) d.gap)) λ j d hs e=>by rw[rOf,JE e,JE e,fl4,fl1]
  refine WR.mono (Qm (h:=h1) (xs:=vs) (chk:=λ _=>True) (f:=rOf (topD ds) h1) ?_ (by omega) (λ _ _=>trivial) ?_) ?_
  ·simp! [true_and]
  ·intro v hv h2 q
   obtain⟨d,hd,j,hs,rfl,e⟩:=w1.of hv
   have e2:=q _ _ e
   simp only[Zu,Zaz,ZY,Zag,ZaW]
   simp! [Jc7,JE e2,fl4,fl1,Jj0 (hg d hd).1 (hg d hd).2]
   exact⟨by rw[rOf,JE e,JE e,fl4,fl1],.refl _⟩
  ·rintro _ _ ⟨rfl,g2,rfl⟩
   rw[rm]
   have em2:ds.map (λ d=>IV.int (rup (topD ds+d.late) d.gap))=(ds.map λ d=>rup (topD ds+d.late) d.gap).map IV.int:=by simp
   rw[em2]
   simp! [Jrm,Jx,VC]
   exact⟨rfl,x1.trans (.cons _ _ _)⟩
abbrev dfs (vs:List IV):List (Str×IV):=[("works",.tup vs)]
theorem dp0 {a:IV}:putI "works" a ([]:List (Str×IV))=([("works",a)]:List (Str×IV)):=by kernel_rfl
theorem dl0 {a:IV}:(([("works",a)]:List (Str×IV))).lookup ("works":Str)=Za a:=by kernel_rfl
theorem dlw {a:IV}:(([("works",a)]:List (Str×IV))).lookup ("work":Str)=Zc:=by kernel_rfl
theorem Jo1 {vs:List IV}{ds:List WD}{i:Nat}(hi:h[i]?=Za (.lst vs))(w:AllW h vs ds)(nd:(ds.map (·.name)).Nodup)(hl:ds.length<=12)(hg:∀d∈ds,0<d.gap/\d.gap.natAbs.log2<9000)(hc:Jlr ds<=80) :
  WR (Xz (k+3) [.ref h.length,.ref i] (h++[.ins "Duty" []])) λ v h'=>v=.non/\∃g,h'=h++.ins "Duty" (dfs vs)::g:=by
 have wl:=w.len
 rw[Jjb]
 simp! [Jdn,Jlf]
 refine WR.mono (Jjw (grow hi) (w.kp (Ex.one h _).kp) nd (by omega)) ?_
 rintro _ _ ⟨rfl,g1,rfl⟩
 refine⟨_,_,_,rfl,grow Jq,by decide,?_⟩
 rw[dp0,ZF,ZS,Za3,V1]
 simp! [Jdo,JE (Jx (h:=h)),dl0,wl]
 refine⟨λ q=>?_,λ _=>?_⟩
 ·rw[decide_eq_true_eq] at q
  omega
 simp! [Jdp,JE (Jx (h:=h)),dl0]
 refine WR.mono (Jr1 (w.kp (Ex.cons h _ _).kp) (by omega) hg) ?_
 rintro _ _ ⟨rfl,g2,rfl⟩
 simp! [true_and]
 refine⟨λ q=>?_,λ _=>⟨g1++g2,by simp⟩⟩
 rw[decide_eq_true_eq] at q
 omega
theorem XJ {vs:List IV}{D:Nat}{n:Int}{x:IV}(hD:h[D]?=Za (.ins "Duty" (dfs vs)))(hx:atI vs n=Za x):Jda (k+1) [.ref D,.int n] h=.ok x h:=by
 refine Jz ?_
 rw[Jjd]
 simp! [Jdr,JE hD,dl0,hx]
end
section
seal L4.run L4.WS
section
variable {k:Nat}{h:IH}
theorem e45 (σ:ISt)(h:IH):Jc JM (eC (.int 10)) (eC (.int 45)) σ h=.ok (.int (10^45)) h:=Jz (by
 rw[Vo,Qr,Qr,VS]
 exact⟨by decide,rfl,rfl⟩)
theorem e30 (σ:ISt)(h:IH):Jc JM (eC (.int 10)) (eC (.int 30)) σ h=.ok (.int (10^30)) h:=Jz (by
 rw[Vo,Qr,Qr,VS]
 exact⟨by decide,rfl,rfl⟩)
theorem e18 (σ:ISt)(h:IH):Jc Jo (Jc JM (eC (.int 10)) (eC (.int 18))) (eC (.int 9)) σ h=.ok (.int 1000000000000000009) h:=Jz (by
 rw[Vo,Vo,Qr,Qr,VS]
 refine⟨by decide,?_⟩
 rw[Qr,Jml]
 exact⟨congrArg IV.int (by decide +kernel),rfl⟩)
theorem Jqv (c:Int)(m:Nat)(hm:m<=40):WR (Jcf (k+1) [.int c,.int m] h) λ v h'=>∃(i:Nat)(xs:List Int),v=.ref i/\h.length<=i/\h'[i]?=Za (.lst (xs.map .int))/\xs.length=m/\(∀x∈xs,(0:Int)<=x/\x<10^45)/\Ex h h':=by
 have hb:=JC
 have p45:(0:Int)<10^45:=by decide +kernel
 have le:(1000000000000000009:Int)<=10^45:=by decide +kernel
 obtain⟨T,eT⟩:∃T:Int,∀σ h,Jc JM (eC (.int 10)) (eC (.int 30)) σ h=.ok (.int T) h:=⟨_,e30⟩
 obtain⟨G,eG,gG⟩:∃G:Int,(∀σ h,Jc Jo (Jc JM (eC (.int 10)) (eC (.int 18))) (eC (.int 9)) σ h=.ok (.int G) h)/\G=1000000000000000009:=⟨_,e18,rfl⟩
 obtain⟨F,eF,F0,Fl,Fe⟩:∃F:Int,(∀σ h,Jc JM (eC (.int 10)) (eC (.int 45)) σ h=.ok (.int F) h)/\0<F/\F.natAbs.log2<9000/\F=10^45:=⟨_,e45,p45,by decide +kernel,rfl⟩
 rw[<- Fe] at le ⊢
 clear Fe p45
 rw[Jh4]
 refine xfin (xseq (xset (Jg (lstE rfl rfl) (xseq (xifd (geE rfl (eT _ _)) (λ _=>xseq (xset (Jg (subE rfl (eT _ _)) (xseq (xrng rfl (by omega) ?_))))) λ _=>xnil (xseq (xset (Jg (addE (modE rfl (eG _ _) (by omega)) rfl) (xseq (xrng (n:=m+2) (okc (addE rfl rfl) rfl) (by omega) ?_))))))))))
 ·refine Q5 (λ n σ h'=>∃xs rest a b,h'=h++[.lst (xs.map IV.int)]/\σ=[Za (.int c),Za (.int (m:Int)),Za (.ref h.length),Za (.int rest),a,b]/\xs.length=n/\∀x∈xs,(0:Int)<=x/\x<F)
   (λ _ _ _ _=>trivial) ?_ ?_ ⟨[],_,_,_,rfl,rfl,rfl,by simp⟩
  ·rintro n hn _ _ ⟨xs,rest,a,b,rfl,rfl,lx,hx⟩
   rw[JS] at hn
   have e1:=ZaS rest (b:=F) (by omega)
   have e2:=Za1 rest F0
   refine xnx rfl (xseq (Juf (Jue rfl Jq VY (Jg (arg1 (modE rfl (eF _ _) F0)) (xapp Jq (by rw[Zp];omega) (xset (Jg (QL rfl (eF _ _) F0 Fl) ⟨xs++[rest%F],_,_,_,?_,rfl,by simp[lx],λ x hxx=>?_⟩)))))))
   ·rw[Jk3]
    simp
   ·rw[ZW,ZE] at hxx
    rcases hxx with hxx|rfl
    ·exact hx x hxx
    ·exact⟨e1,e2⟩
  ·rintro _ _ ⟨xs,rest,a,b,rfl,rfl,lx,hx⟩
   rw[JS] at lx
   exact xret (Jg rfl ⟨_,xs,rfl,Zr _,Jq,by omega,hx,.one _ _⟩)
 ·have s0:=ZaS c (b:=G) (by omega)
  have s1:=Za1 c (b:=G) (by omega)
  refine Q5 (λ n σ h'=>∃xs num a b,h'=h++[.lst (xs.map IV.int)]/\σ=[Za (.int c),Za (.int (m:Int)),Za (.ref h.length),a,b,Za (.int num)]/\(0<=num/\num<2000000000000000000)/\xs.length=n/\∀x∈xs,(0:Int)<=x/\x<G)
   (λ _ _ _ _=>trivial) ?_ ?_ ⟨[],_,_,_,rfl,rfl,by omega,rfl,by simp⟩
  ·rintro n hn _ _ ⟨xs,num,a,b,rfl,rfl,hnum,lx,hx⟩
   rw[V0]
   rw[JS] at hn
   have e1:=ZaS (num*num+48271*num+(0+(n:Int))) (b:=G) (by omega)
   have e2:=Za1 (num*num+48271*num+(0+(n:Int))) (b:=G) (by omega)
   refine xnx rfl (xseq (xset (Jg (modE (addE (addE (mulE rfl rfl (.inl (by omega))) (mulE rfl rfl (.inl (by decide)))) rfl) (eG _ _) (by omega)) (Juf (Jue rfl Jq VY (Jg (arg1 rfl) (xapp Jq (by rw[Zp];omega) ⟨xs++[(num*num+48271*num+(0+(n:Int)))%G],_,_,_,?_,rfl,by omega,by simp[lx],λ x hxx=>?_⟩)))))))
   ·rw[Jk3]
    simp
   ·rw[ZW,ZE] at hxx
    rcases hxx with hxx|rfl
    ·exact hx x hxx
    ·exact⟨e1,e2⟩
  ·rintro _ _ ⟨xs,num,a,b,rfl,rfl,hnum,lx,hx⟩
   rw[JS] at lx
   refine xret ((VT ..).mpr (Jg rfl (Jg rfl (Jg rfl ((VU ..).mpr ⟨_,Jq,?_⟩)))))
   rw[show(Za (2:Int))=Za ((2:Nat):Int) from rfl,Jhz,<-ZdH]
   refine⟨_,xs.drop 2,rfl,by simp,Jq,by simp;omega,λ x hxx=>?_,(Ex.one _ _).trans (.one _ _)⟩
   have:=hx x (Zck hxx)
   omega
end
end
theorem Jsw {a b K:Nat}(h:a<=b)(hb:b.log2<K):a.log2<K:=by
 by_cases ha:a=0
 ·subst ha
  exact Nat.lt_of_le_of_lt (Zaa _) hb
 ·have hb0:b≠0:=by omega
  rw[Nat.log2_lt ha]
  exact Nat.lt_of_le_of_lt h ((Nat.log2_lt hb0).mp hb)
theorem Jp4 {x:Int}(h0:0<=x)(h:x<=10^60):x.natAbs.log2<9000:=by
 refine Jsw (b:=10^60) ?_ (by decide +kernel)
 have e:((10^60:Nat):Int)=10^60:=by decide +kernel
 generalize (10^60:Int)=y at *
 generalize (10^60:Nat)=z at *
 omega
theorem half {a b g:Int}(h:0<g):0<=a%2*(b%g)/\a%2*(b%g)<g:=by
 have b1:=ZaS b (b:=g) (by omega)
 have b2:=Za1 b h
 have:a%2=0∨a%2=1:=by omega
 rcases this with e|e<;>rw[e]
 ·omega
 ·omega
theorem Jqk {a b m:Int}(hb:0<b)(h:a<=m*b):rup a b<=m:=by
 unfold rup
 have:(a+b-1)/b<m+1:=by
  rw[Int.ediv_lt_iff_lt_mul hb,Int.add_mul]
  omega
 omega
theorem Jmg (m:Int):∀l:List Int,(∀x∈l,x<=m)->l.sum<=l.length*m
 | [],_=>by simp
 | x::l,q=>by
  have:=Jmg m l λ y hy=>q y (Zn _ hy)
  have:=q x (Zs ..)
  rw[Zbl,ZB,Int.natCast_add,Int.add_mul]
  simp
  omega
theorem Juz {h:IH}(n:Nat):∀as:List Int,(as.map IV.int).mapM (toD h n)=Za (as.map ZcA)
 | []=>rfl
 | a::as=>by
  have e:toD h n (IV.int a)=Za (.int a):=by cases n<;>rfl
  rw[Zu,ZcQ,e,Juz n as]
  rfl
theorem Juj:∀as:List Int,ZR (as.map ZcA)=Zd
 | []=>by rw[Zaz,ZR]
 | a::as=>by
  rw[Zu,ZR,ZaG,Juj as]
  rfl
theorem J1w (as:List Int):ZaM (.list (as.map ZcA)) (.list [])=as.isEmpty:=by
 rw[ZaM]
 cases as with
 | nil=>rw[Zaz,Zcx];rfl
 | cons a as=>rw[Zu,Zcx];rfl;all_goals intros;simp_all
abbrev t5 (r:WD×Int):IV:=.tup [.int r.1.gap,.int r.1.len,.int r.1.due,.int r.1.late,.int r.2]
def Gaps (ds:List WD):Prop:=∀d∈ds,0<d.gap/\d.gap.natAbs.log2<9000/\d.len.natAbs<2^64
def Good (ds:List WD):Prop:=Gaps ds/\∀d∈ds,1<=d.due/\0<=d.late
theorem AllW.swap {h g:IH}{vs ys:List IV}{xs:List IV}{ds:List WD}(w:AllW (h++IX.lst ys::g) vs ds):AllW (h++IX.lst xs::g) vs ds:=by
 refine⟨w.len,λ i v d a b=>?_⟩
 obtain⟨j,hs,e,q⟩:=w.at_ i v d a b
 refine⟨j,hs,e,?_⟩
 by_cases hj:j=h.length
 ·subst hj
  rw[Jx] at q
  cases q
 ·by_cases hl:j<h.length
  ·rw[ZC hl] at q ⊢
   exact q
  ·rw[Z4 (by omega)] at q ⊢
   obtain⟨n,hn⟩:∃n,j-h.length=n+1:=⟨j-h.length-1,by omega⟩
   rw[hn] at q ⊢
   exact q
theorem AllW.snoc {h:IH}{vs:List IV}{ds:List WD}{v:IV}{d:WD}(w:AllW h vs ds)(x:IsW h v d):AllW h (vs++[v]) (ds++[d]):=by
 have wl:=w.len
 refine⟨by simp[wl],λ i u e a b=>?_⟩
 by_cases hi:i<vs.length
 ·rw[ZC hi] at a
  rw[ZC (by omega)] at b
  exact w.at_ i u e a b
 ·rw[Z4 (by omega)] at a
  rw[Z4 (by omega)] at b
  have ei:i-vs.length=0:=by
   by_cases q:i-vs.length=0
   ·exact q
   ·obtain⟨n,hn⟩:∃n,i-vs.length=n+1:=⟨i-vs.length-1,by omega⟩
    rw[hn] at a
    cases a
  rw[ei] at a
  rw[<- wl,ei] at b
  cases a
  cases b
  exact x
abbrev s9 (S W:Nat)(a b c d e f o:Option IV):ISt:=[Za (.ref S),Za (.ref W),a,b,c,d,e,f,o]
section
variable {k:Nat}{h:IH}
theorem Jye (i j:Int){Q:IV->IH->Prop}:WR (maxI (.int i) (.int j) h) Q=Q (.int (if j>i then j else i)) h:=rfl
theorem Jvv {v:IV}{as:List Int}{j:Nat}(hv:toD h 6 v=Za (.list (as.map ZcA)))(hj:h[j]?=Za (.lst [])):Qo v (.ref j) h=Za as.isEmpty:=by
 have e2:toD h 6 (.ref j)=Za (.list []):=by
  show(match h[j]? with|some (.lst xs)=>(xs.mapM (toD h 5)).map Zch|_=>Zc)=_
  rw[hj]
  rfl
 unfold Qo
 rw[hv,e2]
 dsimp only
 rw[if_pos ⟨by rw[ZaG];exact Juj as,by rw[ZaG,ZR]⟩,J1w]
theorem Jhk {as:List Int}{j:Nat}(hj:h[j]?=Za (.lst [])):cNe (.rol (as.map IV.int)) (.ref j) h=.ok (.bl (!as.isEmpty)) h:=by
 have e1:toD h 6 (.rol (as.map IV.int))=Za (.list (as.map ZcA)):=by
  show((as.map IV.int).mapM (toD h 5)).map Zch=_
  rw[Juz];rfl
 unfold cNe
 have e4:QV (.rol (as.map IV.int)) (.ref j)=Zc:=rfl
 rw[e4]
 dsimp only
 rw[Jvv e1 hj]
mutual
theorem Jlx:∀d:ZcP,d.canLay0=Zd->ZaM d d=Zd
 | .none,_=>by simp[ZaM]
 | .bool _,_=>by simp[ZaM]
 | .int _,_=>by simp[ZaM]
 | .str _,_=>by simp[ZaM]
 | .list xs,q=>by
  rw[ZaM]
  exact Jf9 xs (by rw[ZaG] at q;exact q)
 | .tuple xs,q=>by
  rw[ZaM]
  exact Jf9 xs (by rw[ZaG] at q;exact q)
 | .dict _,q=>by rw[ZaG] at q;cases q
theorem Jf9:∀ds:List ZcP,ZR ds=Zd->Zcx ds ds=Zd
 | [],_=>by rw[Zcx]
 | d::ds,q=>by
  rw[ZR,Zl] at q
  rw[Zcx,Jlx d q.1,Jf9 ds q.2]
  rfl
end
theorem Jz4 {i j:Nat}{d:ZcP}(hi:toD h 6 (.ref i)=Za d)(hj:toD h 6 (.ref j)=Za d)(q:d.canLay0=Zd):cNe (.ref i) (.ref j) h=.ok (.bl Zh) h:=by
 have e3:Qo (.ref i) (.ref j) h=Za Zd:=by
  unfold Qo
  rw[hi,hj]
  dsimp only
  rw[if_pos ⟨q,q⟩,Jlx d q]
 unfold cNe
 have e4:QV (.ref i) (.ref j)=Zc:=rfl
 rw[e4]
 dsimp only
 rw[e3]
 rfl
theorem Jk5 {i n:Nat}{xs:List IV}(e:h[i]?=Za (.lst xs)):toD h (n+1) (.ref i)=(xs.mapM (toD h n)).map Zch:=by
 show(match h[i]? with|some (.lst xs)=>(xs.mapM (toD h n)).map Zch|_=>Zc)=_
 rw[e]
theorem Jp6 {f:IV->Option ZcP}{g:IV->ZcP}:∀{xs:List IV},(∀x∈xs,f x=Za (g x))->xs.mapM f=Za (xs.map g)
 | [],_=>rfl
 | x::xs,q=>by
  rw[ZcQ,q x (Zs ..),Jp6 λ y hy=>q y (Zn _ hy)]
  rfl
theorem Juy {g:IV->ZcP}:∀{xs:List IV},(∀x∈xs,(g x).canLay0=Zd)->ZR (xs.map g)=Zd
 | [],_=>by rw[Zaz,ZR]
 | x::xs,q=>by
  rw[Zu,ZR,q x (Zs ..),Juy λ y hy=>q y (Zn _ hy)]
  rfl
end
abbrev RH:=WD×List Hd
abbrev t5h (r:RH)(q:Nat):IV:=.tup [.int r.1.gap,.int r.1.len,.int r.1.due,.int r.1.late,.ref q]
structure RowsH (h:IH)(ys:List IV)(rs:List RH):Prop where
 len:ys.length=rs.length
 at_:∀(i:Nat) y r,ys[i]?=Za y->rs[i]?=Za r->∃q,y=t5h r q/\h[q]?=Za (.lst (r.2.map tupH))
theorem RowsH.kp {h h':IH}{ys:List IV}{rs:List RH}(k:Kp h h')(w:RowsH h ys rs):RowsH h' ys rs:=⟨w.len,λ i y r a b=>let ⟨q,e,g⟩:=w.at_ i y r a b;⟨q,e,k _ _ g⟩⟩
def IsH (h:IH)(v:IV)(r:RH):Prop:=∃j,v=.ref j/\h[j]?=Za (.ins "Work" (wfs r.1.name r.1.gap r.1.len r.1.due r.1.late (r.2.map tupH)))
structure AllH (h:IH)(vs:List IV)(rs:List RH):Prop where
 len:vs.length=rs.length
 at_:∀(i:Nat) v r,vs[i]?=Za v->rs[i]?=Za r->IsH h v r
theorem AllH.kp {h h':IH}{vs:List IV}{rs:List RH}(k:Kp h h')(w:AllH h vs rs):AllH h' vs rs:=⟨w.len,λ i v r a b=>let ⟨j,e,g⟩:=w.at_ i v r a b;⟨j,e,k _ _ g⟩⟩
theorem AllH.w {h:IH}{vs:List IV}{rs:List RH}(w:AllH h vs rs):AllW h vs (rs.map (·.1)):=by
 refine⟨by rw[Zp];exact w.len,λ i v d a b=>?_⟩
 rw[Z7] at b
 cases er:rs[i]? with
 | none=>rw[er] at b;cases b
 | some r =>
  rw[er] at b
  cases b
  obtain⟨j,e,g⟩:=w.at_ i v r a er
  exact⟨j,_,e,g⟩
theorem AllH.snoc {h:IH}{vs:List IV}{rs:List RH}{v:IV}{r:RH}(w:AllH h vs rs)(x:IsH h v r):AllH h (vs++[v]) (rs++[r]):=by
 have wl:=w.len
 refine⟨by simp[wl],λ i u e a b=>?_⟩
 by_cases hi:i<vs.length
 ·rw[ZC hi] at a
  rw[ZC (by omega)] at b
  exact w.at_ i u e a b
 ·rw[Z4 (by omega)] at a
  rw[Z4 (by omega)] at b
  have ei:i-vs.length=0:=by
   by_cases q:i-vs.length=0
   ·exact q
   ·obtain⟨n,hn⟩:∃n,i-vs.length=n+1:=⟨i-vs.length-1,by omega⟩
    rw[hn] at a
    cases a
  rw[ei] at a
  rw[<- wl,ei] at b
  cases a
  cases b
  exact x
theorem Jux {x:Str}(q:IsNm x):ZaG (.str x)=Zd:=by
 rw[ZaG]
 unfold PyData.strOk
 rw[<- Array.all_toList,ZbO]
 intro c hc
 have:=q.2.2 c hc
 simp only[decide_eq_true_eq]
 omega
def dS (v:IV):ZcP:=match v with
 | .str x=>.str x
 | _=>.none
theorem J1u {h h0:IH}{it:I1}{e:E1}{js:List Nat}{σ:ISt}{xs:List IV}{chk:IH->Prop}(D:IV->IV->IH->Prop)(hit:WR (it σ h0) λ J h1=>J.xs=xs/\J.chk=chk/\h1=h)(hl:xs.length<sizeLine)
  (mono:∀x y h2 h3,KpB h.length h2 h3->D x y h2->D x y h3)(hc:∀h2:IH,Kp h h2->chk h2)
  (he:∀x∈xs,∀h2:IH,Kp h h2->h.length<h2.length->WR (e (Za x::js.map λ j=>(σ[j]?).join) h2) λ v h3=>Ex h2 h3/\D x v h3) :
  ∃v h3,Ju it 1 js (gNm 0) J8 e σ h0=.ok v h3/\v=.ref h.length/\∃ys,h3[h.length]?=Za (.lst ys)/\ys.length=xs.length/\Kp h h3/\∀(i:Nat) x y,xs[i]?=Za x->ys[i]?=Za y->D x y h3 :=
 (Jt2 D hit hl mono hc he).eq
section
variable {k:Nat}{h:IH}
theorem Jwq {i:Nat}{zs:List Str}{x:Str}(hi:h[i]?=Za (.lst (zs.map .str)))(hz:∀z∈zs,IsNm z)(hx:IsNm x):cIn (.str x) (.ref i) h=.ok (.bl (zs.any λ a=>decide (a=x))) h:=by
 have e1:toD h 6 (.ref i)=Za (.list ((zs.map IV.str).map dS)):=by
  rw[Jk5 hi,Jp6 (g:=dS) λ v hv=>?_]
  ·rfl
  ·obtain⟨z,_,rfl⟩:=Zz.mp hv
   rfl
 have e2:toD h 6 (.str x)=Za (.str x):=rfl
 have c1:ZR ((zs.map IV.str).map dS)=Zd:=Juy λ v hv=>by
  obtain⟨z,q,rfl⟩:=Zz.mp hv
  exact Jux (hz z q)
 have e3:inI (.str x) (.ref i) h=Za (zs.any λ a=>decide (a=x)):=by
  unfold inI
  rw[e1,e2]
  dsimp only
  rw[if_pos ⟨c1,Jux hx⟩]
  clear c1 e1 hi hz
  congr 1
  induction zs with
  | nil=>rfl
  | cons z zs ih =>
   rw[Zu,Zu,ZbW,ZbW,ih]
   rfl
 unfold cIn
 rw[e3]
end
section
variable {k:Nat}{h h1:IH}{σ:ISt}
theorem Jx3 {Q:IV->IH->Prop}:WR (Jr4 σ h) Q=Q (.ref h.length) (h++[.dct []]):=rfl
theorem Jx4 {P:Pg}{m:Str}{n i:Nat}{o:E1}{a:A1}{kvs:List (Key×IV)}{Q:IV->IH->Prop}{g:IV->List IV->IH->Res IV}(e:o σ h=.ok (.ref i) h1)(hl:h1[i]?=Za (.dct kvs))(hg:bmOf "dict" m n=Za g):WR (J0 P m n o a σ h) Q=WR (a σ h1) λ vs h2=>WR (g (.ref i) vs h2) Q:=by
 unfold J0
 rw[e]
 have hi:VD (.ref i) h1=Zh:=by simp[VD,hl]
 have ht:tyS (.ref i) h1="dict":=by simp[tyS,hl]
 dsimp only
 rw[hi,ht,hg]
 dsimp only
 rw[if_neg Zq]
 unfold eBm
 rw[e,Js,QZ]
 have:tyOk "dict" (.ref i) h1=Zd:=by simp[tyOk,hl]
 rw[if_pos this,Js]
theorem Jop:bmOf "dict" "setdefault" 2=Za V2:=by kernel_rfl
theorem Jt7 {i:Nat}{kvs:List (Key×IV)}{x:Str}{v w:IV}{Q:IV->IH->Prop}(hi:h[i]?=Za (.dct kvs))(e:valI kvs (.inr x)=Za w):WR (V2 (.ref i) [.str x,v] h) Q=Q w h:=by
 unfold V2
 simp only[hi,keyI,e]
 rfl
theorem Jt6 {i:Nat}{kvs:List (Key×IV)}{x:Str}{v:IV}{Q:IV->IH->Prop}(hi:h[i]?=Za (.dct kvs))(e:valI kvs (.inr x)=Zc)(hl:kvs.length<sizeLine):WR (V2 (.ref i) [.str x,v] h) Q=Q v (h.set i (.dct (kvs++[(.inr x,v)]))):=by
 unfold V2
 simp only[hi,keyI,e,hl,if_true]
 rfl
end
theorem Jq4 (kvs:List (Key×IV))(k k':Key)(v:IV):valI (kvs++[(k,v)]) k'=match valI kvs k' with
  | some w=>Za w
  | none=>if k=k' then Za v else Zc:=by
 induction kvs with
 | nil =>
  by_cases e:k=k'
  ·rw[Za3,Jfl e,if_pos e];rfl
  ·rw[Za3,Jfk e,if_neg e];rfl
 | cons p r ih =>
  by_cases e:p.1=k'
  ·rw[ZS,Jfl e,Jfl e]
  ·rw[ZS,Jfk e,Jfk e,ih]
def has (x:Str)(hs:List Hd):Bool:=hs.any λ a=>decide (a.1=x)
def fstK (hss:List (List Hd))(x:Str):Option Nat:=hss.findIdx? (has x)
def fV (o:Option Nat):IV:=match o with
 | some i=>.int (i:Int)
 | none=>.non
theorem Jpb (hss:List (List Hd))(hs:List Hd)(x:Str):fstK (hss++[hs]) x=match fstK hss x with
  | some i=>Za i
  | none=>if has x hs=Zd then Za hss.length else Zc:=by
 unfold fstK
 rw[List.findIdx?_append]
 cases hss.findIdx? (has x) with
 | some i=>rfl
 | none =>
  by_cases e:has x hs=Zd
  ·simp[Zd1,e]
  ·simp[Zd1,e]
theorem Jlz (x:Str)(hs:List Hd)(a:Hd):has x (hs++[a])=(has x hs||decide (a.1=x)):=by simp[has]
section
variable {k:Nat}{h:IH}
theorem dls {a:IV}:(([("works",a)]:List (Str×IV))).lookup ("size":Str)=Zc:=by kernel_rfl
theorem Jeh {vs:List IV}{D:Nat}(hD:h[D]?=Za (.ins "Duty" (dfs vs))):Jc9 (k+1) [.ref D] h=.ok (.int vs.length) h:=by
 refine Jz ?_
 rw[Jjc]
 simp! [Jdq,JE hD,dl0]
def Told (kvs:List (Key×IV))(hss:List (List Hd))(n:Nat)(hs:List Hd):Prop:=∀x,valI kvs (.inr x)=match fstK hss x with
 | some i=>Za (.int (i:Int))
 | none=>if has x hs=Zd then Za (.int (n:Int)) else Zc
theorem Told.next {kvs:List (Key×IV)}{hss:List (List Hd)}{hs:List Hd}{n:Nat}(t:Told kvs hss n hs)(hn:hss.length=n):Told kvs (hss++[hs]) (n+1) []:=λ x=>by
 subst hn
 rw[t x,Jpb]
 cases fstK hss x with
 | some i=>rfl
 | none =>
  by_cases e:has x hs=Zd
  ·simp only[e,if_true]
  ·simp only[e];rfl
theorem Told.old {kvs:List (Key×IV)}{hss:List (List Hd)}{n:Nat}{hs:List Hd}{a:Hd}{w:IV}(t:Told kvs hss n hs)(e:valI kvs (.inr a.1)=Za w):Told kvs hss n (hs++[a]):=λ x=>by
 rw[t x]
 cases ef:fstK hss x with
 | some i=>rfl
 | none =>
  dsimp only
  rw[Jlz]
  by_cases ea:a.1=x
  ·have:=t x
   rw[<- ea,e,ea,ef] at this
   dsimp only at this
   by_cases q:has x hs=Zd
   ·simp[q]
   ·rw[if_neg q] at this
    cases this
  ·simp[ea]
theorem Told.new {kvs:List (Key×IV)}{hss:List (List Hd)}{n:Nat}{hs:List Hd}{a:Hd}(t:Told kvs hss n hs)(e:valI kvs (.inr a.1)=Zc):Told (kvs++[(.inr a.1,.int (n:Int))]) hss n (hs++[a]):=λ x=>by
 rw[Jq4,t x]
 cases ef:fstK hss x with
 | some i=>rfl
 | none =>
  dsimp only
  rw[Jlz]
  by_cases q:has x hs=Zd
  ·simp[q]
  ·by_cases ea:a.1=x
   ·simp[q,ea]
   ·have:¬((.inr a.1:Key)=.inr x):=λ z=>ea (Sum.inr.inj z)
    simp[q,ea]
theorem Jkl {vs:List IV}{rs:List RH}{D:Nat}(hD:h[D]?=Za (.ins "Duty" (dfs vs)))(w:AllH h vs rs)(hl:rs.length<=12)(h6:∀r∈rs,r.2.length<=6) :
  WR (Jeq (k+2) [.ref D] h) λ v h'=>∃i kvs,v=.ref i/\h'[i]?=Za (.dct kvs)/\(∀x,(valI kvs (.inr x)).getD .non=fV (fstK (rs.map (·.2)) x))/\Ex h h':=by
 have hb:=JC
 have wl:=w.len
 rw[Jkp]
 simp! [Je2,Je3,Jx3]
 rw[Q3 (i:=D) (h1:=h++[.dct []]) rfl (grow hD) dls (Jba _)]
 simp! [Jeh (grow hD)]
 refine⟨by omega,?_⟩
 refine Q5 (λ n σ h'=>∃kvs g a b,h'=h++IX.dct kvs::g/\σ=[Za (.ref D),Za (.ref h.length),a,b]/\kvs.length<=6*n/\Told kvs ((rs.map (·.2)).take n) n []) (λ _ _ _ _=>trivial) ?_ ?_ ⟨[],[],Zc,Zc,rfl,rfl,by simp,λ x=>by simp[valI,fstK,has]⟩
 ·rintro n hn _ _ ⟨kvs,g,a,b,rfl,rfl,ln,td⟩
  rw[V0]
  rw[JS] at hn
  have hn':n<rs.length:=by omega
  have en:(0:Int)+(n:Int)=n:=by omega
  obtain⟨j,ej,gj⟩:=w.at_ n _ _ (Zb (by omega)) (Zb hn')
  have av:atI vs (n:Int)=Za (.ref j):=Qd (by rw[Zb (by omega),ej])
  have hl6:=h6 _ (ZI hn')
  have hm:n<(rs.map (·.2)).length:=by rw[Zp];exact hn'
  have tk:(rs.map (·.2)).take (n+1)=(rs.map (·.2)).take n++[(rs[n]).2]:=by rw[ZV hm,Za8]
  rw[tk]
  generalize rs[n]=r at gj hl6
  simp! [en,Jel]
  have x1:Ex h (h++IX.dct kvs::g):=.cons _ _ _
  have ed:J0 (pg (k+1)) "work" 1 (Ja 0) (Jb (Ja 2) Jd) [Za (IV.ref D),Za (IV.ref h.length),Za (IV.int (n:Int)),b] (h++IX.dct kvs::g)=.ok (.ref j) (h++IX.dct kvs::g):=by
   refine Jz ?_
   rw[Q3 (i:=D) (h1:=h++IX.dct kvs::g) rfl (x1.get hD) dlw (XI _)]
   simp! [XJ (x1.get hD) av]
  rw[Q3 (i:=j) (h1:=h++IX.dct kvs::g) ed (x1.get gj) flh (Je7 _)]
  simp! [Jki (x1.get gj),JP,Jq]
  generalize r.2=hs at hl6
  refine Q5 (λ m σ h'=>∃kvs' b',h'=h++IX.dct kvs'::(g++[IX.lst (hs.map tupH)])/\σ=[Za (.ref D),Za (.ref h.length),Za (.int (n:Int)),b']/\kvs'.length<=6*n+m/\Told kvs' ((rs.map (·.2)).take n) n (hs.take m)) ?_ ?_ ?_ ⟨kvs,b,by rw[ZF,ZS],rfl,by omega,td⟩
  ·rintro _ _ _ ⟨kvs',b',rfl,_⟩
   rw[show h++IX.dct kvs'::(g++[IX.lst (hs.map tupH)])=(h++IX.dct kvs'::g)++[IX.lst (hs.map tupH)] by rw[ZF,ZS],
    show(h++IX.dct kvs::g).length=(h++IX.dct kvs'::g).length by simp]
   exact Jq
  ·rintro m hm _ _ ⟨kvs',b',rfl,rfl,lm,tm⟩
   have hm':m<hs.length:=by simpa using hm
   rw[Za8,ZV hm']
   generalize hs[m]=a at *
   simp! [Jek]
   rw[Jx4 (i:=h.length) (h1:=h++IX.dct kvs'::(g++[IX.lst (hs.map tupH)])) rfl Jx Jop]
   simp! [tupH]
   cases ev:valI kvs' (.inr a.1) with
   | some w' =>
    rw[Jt7 Jx ev]
    exact⟨kvs',_,rfl,rfl,by omega,tm.old ev⟩
   | none =>
    rw[Jt6 Jx ev (by omega),V1]
    exact⟨_,_,rfl,rfl,by rw[ZD,ZcT];omega,tm.new ev⟩
  ·rintro _ _ ⟨kvs',b',rfl,rfl,lm,tm⟩
   rw[Zp] at lm tm
   rw[Zaq (Zr _)] at tm
   have ltn:((rs.map (·.2)).take n).length=n:=by rw[ZN];omega
   exact⟨kvs',_,_,_,rfl,rfl,by omega,tm.next ltn⟩
 ·rintro _ _ ⟨kvs,g,a,b,rfl,rfl,ln,td⟩
  simp! [Je4]
  refine⟨_,kvs,rfl,Jx,λ x=>?_,.cons _ _ _⟩
  have:=td x
  rw[JS,Zaq (by rw[Zp];omega)] at this
  rw[this]
  cases fstK (rs.map (·.2)) x with
  | some i=>rfl
  | none=>simp[has,fV]
end
def tn (b:Hd):Int:=b.2.2-b.2.1-1
def stB (hss:List (List Hd))(a:Nat)(b:Hd):Bool:=match fstK hss b.1 with
 | some m=>decide (m<=a)
 | none=>Zh
def fds (st:Hd->Bool):Nat->List (List Hd)->List (Nat×Hd)
 | _,[]=>[]
 | o,hs::r=>(hs.filter st).map (λ b=>(o,b))++fds st (o+1) r
theorem Jh2 (st:Hd->Bool):∀(l:List (List Hd))(o:Nat)(hs:List Hd),fds st o (l++[hs])=fds st o l++(hs.filter st).map λ b=>(o+l.length,b)
 | [],o,hs=>by simp[fds]
 | a::l,o,hs=>by
  rw[ZS,fds,fds,Jh2 st l (o+1) hs,ZF,ZB,show o+1+l.length=o+(l.length+1) by omega]
theorem Jo7 (st:Hd->Bool):∀(l:List (List Hd))(o:Nat),(∀hs∈l,hs.length<=6)->(fds st o l).length<=6*l.length
 | [],o,_=>by simp[fds]
 | a::l,o,q=>by
  have h1:=Jo7 st l (o+1) λ hs h=>q hs (Zn _ h)
  have h2:=q a Zs
  have h3:=ZcV st a
  rw[fds,ZD,Zp,ZB]
  omega
def prV (p:Nat×Hd):IV:=.tup [.int (p.1:Int),tupH p.2]
def kfV (v:IV):Int:=match v with
 | .tup [_,.tup [_,.int s,.int e]]=>e-s-1
 | _=>0
theorem J16 (p:Nat×Hd):kfV (prV p)=tn p.2:=rfl
theorem Jom (l:List (Nat×Hd)):(l=[]/\XF kfV .non (l.map prV)=.non)∨∃p∈l,XF kfV .non (l.map prV)=prV p/\∀p'∈l,tn p'.2<=tn p.2:=by
 cases l with
 | nil=>exact .inl ⟨rfl,rfl⟩
 | cons p0 r =>
  refine .inr ?_
  rw[Zu]
  show ∃p∈p0::r,Qn kfV (prV p0) (r.map prV)=prV p/\_
  obtain⟨h1,h2⟩:=Jf5 kfV (r.map prV) (prV p0)
  have key:∀p,Qn kfV (prV p0) (r.map prV)=prV p->∀p'∈p0::r,tn p'.2<=tn p.2:=λ p e p' hp'=>by
   rw[e,J16] at h1 h2
   rcases ZH.mp hp' with rfl|hp'
   ·exact h1
   ·exact h2 _ (Zz.mpr ⟨p',hp',rfl⟩)
  rcases Jeu kfV (r.map prV) (prV p0) with e|e
  ·exact⟨p0,Zs,e,key p0 e⟩
  ·obtain⟨p,hp,e⟩:=Zz.mp e
   exact⟨p,Zn _ hp,e.symm,key p e.symm⟩
structure Dty (h:IH)(D:Nat)(vs:List IV)(rs:List RH):Prop where
 d:h[D]?=Za (.ins "Duty" (dfs vs))
 w:AllH h vs rs
 few:rs.length<=12
 six:∀r∈rs,r.2.length<=6/\∀a∈r.2,IsNm a.1
theorem Dty.kp {h h':IH}{D:Nat}{vs:List IV}{rs:List RH}(k:Kp h h')(y:Dty h D vs rs):Dty h' D vs rs:=⟨k _ _ y.d,y.w.kp k,y.few,y.six⟩
def stV (hss:List (List Hd))(a:Nat)(v:IV):Bool:=match v with
 | .tup [.str x,.int s,.int e]=>stB hss a (x,s,e)
 | _=>Zh
def Jxa (o:Int)(v:IV):IV:=.tup [.int o,v]
theorem Jqt (hss:List (List Hd))(a o:Nat):∀hs:List Hd,((hs.map tupH).filter (stV hss a)).map (Jxa (o:Int))=((hs.filter (stB hss a)).map λ b=>(o,b)).map prV
 | []=>rfl
 | b::hs=>by
  rw[Zu,ZbM,ZbM]
  have e:stV hss a (tupH b)=stB hss a b:=rfl
  rw[e]
  split
  ·rw[Zu,Zu,Zu,Jqt hss a o hs]
   rfl
  ·exact Jqt hss a o hs
section
variable {k:Nat}{h:IH}
theorem Jya {i:Nat}{kvs:List (Key×IV)}{x:Str}{v:IV}{Q:IV->IH->Prop}(hi:h[i]?=Za (.dct kvs))(e:valI kvs (.inr x)=Za v):WR (Xh (.ref i) (.str x) h) Q=Q v h:=by
 unfold Xh
 simp only[hi,keyI,e]
 rfl
theorem Jmi (b:Hd):Jay (k+1) [tupH b] h=.ok (.int (tn b)) h:=by
 refine Jz ?_
 rw[Jh5]
 simp! [Jc5,tupH,tn]
theorem Jyf {gt:IV->IV->Option Bool}{q:Str}{j i a:Nat}{js:List Nat}{m:E1}{d:IV}{σ:ISt}{Q:IV->IH->Prop}(hj:h[j]?=Za (.tab q))(hi:σ[i]?=Za (Za (.ref a))) :
  WR (XO gt q j js (Jb (Ja i) Jd) m (eC d) σ h) Q=WR (Xf gt (λ v h'=>m (Za v::js.map λ j=>(σ[j]?).join) h') a d h) Q:=by
 have e:Jb (Ja i) Jd σ h=.ok [.ref a] h:=by
  unfold Jb Ja Jd
  rw[hi]
  rfl
 unfold XO
 rw[e]
 show WR (match h[j]? with|some (.tab q')=>_|_=>_) Q=_
 rw[hj]
 dsimp only
 rw[if_pos rfl]
 rfl
theorem Jnn {D a:Nat}{vs:List IV}{rs:List RH}(y:Dty h D vs rs)(ha:a<rs.length)(h0:h[1]?=Za (.tab "longest_hold")) :
  WR (Jbb (k+3) [.ref D,.int (a:Int)] h) λ v h'=>v=XF kfV .non ((fds (stB (rs.map (·.2)) a) (a+1) ((rs.map (·.2)).drop (a+1))).map prV)/\Ex h h':=by
 have hb:=JC
 rw[Jgc]
 simp! [Jb4]
 refine WR.mono (Jkl (k:=k) y.d y.w y.few λ r hr=>(y.six r hr).1) ?_
 rintro _ h1 ⟨t,kvs,rfl,gt,tv,x1⟩
 have y1:=y.kp x1.kp
 have wl:=y1.w.len
 have few:=y.few
 simp! [Jb5,Jb6,Zau,Zaa]
 rw[Q3 (i:=D) (h1:=h1++[.lst []]) rfl (grow y1.d) dls (Jba _)]
 simp! [Jeh (grow y1.d)]
 refine⟨by omega,?_⟩
 generalize hss':rs.map (·.2)=hss at tv
 have lh:hss.length=rs.length:=by rw[<- hss'];simp
 have six:∀hs∈hss,hs.length<=6:=λ hs q=>by
  rw[<- hss'] at q
  obtain⟨r,hr,rfl⟩:=Zz.mp q
  exact(y.six r hr).1
 refine Q5 (λ m σ h'=>∃g c,h'=h1++IX.lst ((fds (stB hss a) (a+1) ((hss.drop (a+1)).take m)).map prV)::g/\σ=[Za (.ref D),Za (.int (a:Int)),Za (.ref t),Za (.ref h1.length),c]) (λ _ _ _ _=>trivial) ?_ ?_ ⟨[],Zc,rfl,rfl⟩
 ·rintro n hn _ _ ⟨g,c,rfl,rfl⟩
  rw[V0]
  rw[JS] at hn
  have hn':a+1+n<rs.length:=by omega
  have en:(a:Int)+1+(n:Int)=((a+1+n:Nat):Int):=by push_cast;omega
  have hd:n<(hss.drop (a+1)).length:=by rw[Zbf];omega
  have ed:(hss.drop (a+1))[n]=(rs[a+1+n]).2:=by
   rw[Zd8]
   subst hss'
   rw[Za8]
  rw[ZV hd,Jh2,ZN,Zc2 (by omega),ed]
  have lf:=Jo7 (stB hss a) ((hss.drop (a+1)).take n) (a+1) λ hs q=>six hs (Zck (Zaj q))
  rw[ZN,Zc2 (by omega)] at lf
  generalize hF:fds (stB hss a) (a+1) ((hss.drop (a+1)).take n)=F at lf
  obtain⟨j,ej,gj⟩:=y1.w.at_ (a+1+n) _ _ (Zb (by omega)) (Zb hn')
  have av:atI vs ((a+1+n:Nat):Int)=Za (.ref j):=Qd (by rw[Zb (by omega),ej])
  have hl6:=(y.six _ (ZI hn')).1
  have held:∀b∈(rs[a+1+n]).2,∃m,fstK hss b.1=Za m:=λ b hb'=>by
   cases e:fstK hss b.1 with
   | some m=>exact⟨m,rfl⟩
   | none =>
    exfalso
    unfold fstK at e
    rw[Zd4] at e
    have:=e (rs[a+1+n]).2 (by rw[<- hss'];exact Zz.mpr ⟨_,ZI hn',rfl⟩)
    unfold has at this
    have t2:((rs[a+1+n]).2.any λ x=>decide (x.1=b.1))=Zd:=ZbR.mpr ⟨b,hb',by simp⟩
    rw[t2] at this
    cases this
  generalize rs[a+1+n]=r at gj hl6 held
  have x2:Ex h1 (h1++IX.lst (F.map prV)::g):=.cons _ _ _
  rw[en]
  simp! [Jbg]
  have ew:J0 (pg (k+2)) "work" 1 (Ja 0) (Jb (Ja 4) Jd) [Za (IV.ref D),Za (IV.int (a:Int)),Za (IV.ref t),Za (IV.ref h1.length),Za (IV.int ((a+1+n:Nat):Int))] (h1++IX.lst (F.map prV)::g)=.ok (.ref j) (h1++IX.lst (F.map prV)::g):=by
   refine Jz ?_
   rw[Q3 (i:=D) (h1:=h1++IX.lst (F.map prV)::g) rfl (x2.get y1.d) dlw (XI _)]
   simp! [XJ (x2.get y1.d) av]
  rw[Yk (i:=h1.length) (h1:=h1++IX.lst (F.map prV)::g) rfl Jx Jon]
  simp! [true_and]
  refine WR.mono (Jlb (h:=h1++IX.lst (F.map prV)::g++[IX.lst (r.2.map tupH)]) (xs:=r.2.map tupH) (chk:=λ h'=>h'[(h1++IX.lst (F.map prV)::g).length]?=Za (.lst (r.2.map tupH))) (p:=stV hss a) (f:=Jxa ((a+1+n:Nat):Int)) ?_ (by rw[Zp];omega) (λ h2 q=>q _ _ Jq) ?_ ?_) ?_
  ·rw[Jio,Q3 (i:=j) (h1:=h1++IX.lst (F.map prV)::g) ew (x2.get gj) flh (Je7 _)]
   simp! [Jki (x2.get gj),JP,Jq]
  ·intro v hv h2 q
   obtain⟨b,hb',rfl⟩:=Zz.mp hv
   obtain⟨m,em⟩:=held b hb'
   have ev:valI kvs (.inr b.1)=Za (.int (m:Int)):=by
    have z:=tv b.1
    rw[em] at z
    cases w:valI kvs (.inr b.1) with
    | none=>rw[w] at z;cases z
    | some v'=>rw[w] at z;exact congrArg Za z
   have gt2:h2[t]?=Za (.dct kvs):=q _ _ (grow (x2.get gt))
   simp only[Zu,Zaz,ZY,Zag,ZaW]
   simp! [Ja5,tupH,Jya gt2 ev]
   refine⟨?_,.refl _⟩
   show decide ((m:Int)<=a)=stB hss a b
   unfold stB
   rw[em]
   simp
  ·intro v hv _ h2 q
   simp only[Zu,Zaz,ZY,Zag,ZaW]
   simp! [Ja4,Jxa,ZB,Zau]
   exact⟨by omega,.refl _⟩
  ·rintro _ _ ⟨rfl,g2,rfl⟩
   rw[Jqt]
   have lr:=ZcV (stB hss a) r.2
   rw[Jra (xs:=F.map prV) (grow (grow Jx)) Jx (by rw[Zp,Zp,Zp];omega)]
   refine⟨g++[IX.lst (r.2.map tupH)]++IX.lst (((r.2.filter (stB hss a)).map λ b=>(a+1+n,b)).map prV)::g2,_,?_,rfl⟩
   rw[ZF,ZF,ZS,V1,Zbr,ZF]
 ·rintro _ _ ⟨g,c,rfl,rfl⟩
  rw[JS,Zaq (by rw[Zbf];omega)]
  generalize fds (stB hss a) (a+1) (hss.drop (a+1))=F
  have x2:Ex h1 (h1++IX.lst (F.map prV)::g):=.cons _ _ _
  simp! [Jb7]
  rw[Jyf (x2.get (x1.get h0)) rfl]
  refine WR.mono (Jt5 (kf:=kfV) Jx ?_) ?_
  ·intro v hv h2 x3
   obtain⟨p,hp,rfl⟩:=Zz.mp hv
   simp! [Ja6,prV,Jmi]
   exact⟨rfl,.refl _⟩
  ·rintro v h3 ⟨rfl,x3⟩
   exact⟨rfl,(x1.trans x2).trans x3⟩
def UpIs (l:List (Nat×Hd))(z:Int):Prop:=(l=[]/\z=0)∨∃p∈l,z=tn p.2/\∀p'∈l,tn p'.2<=z
theorem Jnf {D a:Nat}{vs:List IV}{rs:List RH}(y:Dty h D vs rs)(ha:a<rs.length)(h0:h[1]?=Za (.tab "longest_hold")) :
  WR (Jfq (k+4) [.ref D,.int (a:Int)] h) λ v h'=>(∃z,v=.int z/\UpIs (fds (stB (rs.map (·.2)) a) (a+1) ((rs.map (·.2)).drop (a+1))) z)/\Ex h h':=by
 rw[Jm8]
 simp! [Jfu]
 refine WR.mono (Jnn (k:=k) y ha h0) ?_
 rintro _ h1 ⟨rfl,x1⟩
 generalize fds (stB (rs.map (·.2)) a) (a+1) ((rs.map (·.2)).drop (a+1))=F
 rcases Jom F with⟨e1,e2⟩|⟨p,hp,e2,all⟩
 ·rw[e2]
  simp! [Jdg,Xw,isI]
  exact⟨.inl ⟨e1,rfl⟩,x1⟩
 ·rw[e2]
  simp! [Jdg,prV,Xw,isI,Jmi]
  exact⟨.inr ⟨p,hp,rfl,all⟩,x1⟩
end
def sgs (l:List (List Hd)):List Str:=(l.map λ hs=>hs.map (·.1)).flatten
def tns (st:Hd->Bool)(l:List (List Hd)):List Int:=(l.map λ hs=>(hs.filter st).map tn).flatten
theorem Jo9 (st:Hd->Bool):∀(l:List (List Hd))(o:Nat),(fds st o l).map (λ p=>tn p.2)=tns st l
 | [],_=>rfl
 | a::l,o=>by
  rw[fds,Zbr,Jo9 st l (o+1),Zco]
  rfl
theorem J0y (hss:List (List Hd))(a:Nat)(b:Hd):((sgs (hss.take (a+1))).any λ x=>decide (x=b.1))=stB hss a b:=by
 rw[ZbT,ZbR]
 unfold stB
 have key:∀i (hi:i<hss.length),has b.1 hss[i]=Zd↔∃c∈hss[i],c.1=b.1:=λ i hi=>by
  unfold has
  rw[ZbR]
  exact⟨λ ⟨c,hc,e⟩=>⟨c,hc,of_decide_eq_true e⟩,λ ⟨c,hc,e⟩=>⟨c,hc,decide_eq_true e⟩⟩
 constructor
 ·rintro⟨x,hx,e⟩
  have e:=of_decide_eq_true e
  subst e
  unfold sgs at hx
  obtain⟨l,hl,hx⟩:=Zcp.mp hx
  obtain⟨hs,hh,rfl⟩:=Zz.mp hl
  obtain⟨c,hc,ec⟩:=Zz.mp hx
  obtain⟨i,hi,rfl⟩:=Zaw.mp hh
  rw[ZN] at hi
  rw[Zcd] at hc
  have hi':i<hss.length:=by omega
  have hb:=(key i hi').mpr ⟨c,hc,ec⟩
  cases ef:fstK hss b.1 with
  | none =>
   unfold fstK at ef
   rw[Zd4] at ef
   rw[ef _ (ZI hi')] at hb
   cases hb
  | some m =>
   unfold fstK at ef
   obtain⟨hm,_,lt⟩:=Za5.mp ef
   have:m<=i:=by
    by_cases q:i<m
    ·exact absurd hb (lt i q)
    ·omega
   exact decide_eq_true (by omega)
 ·intro e
  cases ef:fstK hss b.1 with
  | none=>rw[ef] at e;cases e
  | some m =>
   rw[ef] at e
   have e:m<=a:=of_decide_eq_true e
   unfold fstK at ef
   obtain⟨hm,hp,_⟩:=Za5.mp ef
   obtain⟨c,hc,ec⟩:=(key m hm).mp hp
   refine⟨b.1,?_,by simp⟩
   unfold sgs
   refine Zcp.mpr ⟨_,Zz.mpr ⟨hss[m],?_,rfl⟩,Zz.mpr ⟨c,hc,ec⟩⟩
   exact Zaw.mpr ⟨m,by rw[ZN];omega,by rw[Zcd]⟩
theorem Jo8 (st:Hd->Bool):∀(l:List (List Hd))(o:Nat),(∀hs∈l,∀b∈hs,0<=tn b)->∀p∈fds st o l,0<=tn p.2
 | [],_,_,p,hp=>by cases hp
 | hs::l,o,q,p,hp=>by
  rw[fds] at hp
  rcases ZW.mp hp with hp|hp
  ·obtain⟨b,hb',rfl⟩:=Zz.mp hp
   exact q hs Zs b (Zak.mp hb').1
  ·exact Jo8 st l (o+1) (λ hs h=>q hs (Zn _ h)) p hp
def thV (v:IV):IV:=match v with
 | .tup [.str x,_,_]=>.str x
 | _=>.non
theorem Jva:∀hs:List Hd,(hs.map tupH).map thV=(hs.map (·.1)).map IV.str
 | []=>rfl
 | b::hs=>by rw[Zu,Zu,Jva hs];rfl
noncomputable def stT (v:IV):ISt:=match v with
 | .tup [a,b,c]=>[Za a,Za b,Za c]
 | _=>[]
def cmn (s:Int)(d:WD):Int:=if 1<=s then rup (s+d.late) d.gap else 0
def J4 (rs:List RH)(s:Int):Int:=(rs.map λ r=>cmn s r.1*r.1.len).sum
def aOfN (s:Int)(h:IH)(v:IV):IV:=match QA "late" v h,QA "gap" v h,QA "length" v h with
 | some (.int l),Za (.int g),Za (.int n)=>.int ((if 1<=s then rup (s+l) g else 0)*n)
 | _,_,_=>.non
def Jvi (rs:List RH):Prop:=∀r∈rs,0<r.1.gap/\r.1.gap.natAbs.log2<9000/\r.1.len.natAbs<2^64
theorem AllH.take {h:IH}{vs:List IV}{rs:List RH}(w:AllH h vs rs)(n:Nat):AllH h (vs.take n) (rs.take n):=by
 refine⟨by rw[ZN,ZN,w.len],λ i v r a b=>?_⟩
 rw[Zc8] at a b
 split at a
 ·rename_i q
  rw[if_pos q] at b
  exact w.at_ i v r a b
 ·cases a
def vAt (vs:List IV)(v:IV):IV:=match v with
 | .int n=>(vs[n.toNat]?).getD .non
 | _=>.non
theorem Jx0 (vs:List IV)(a:Nat)(ha:a<=vs.length):(rngI 0 (a:Int)).map (vAt vs)=vs.take a:=by
 refine Zcc λ i=>?_
 rw[Z7]
 by_cases hi:i<a
 ·have hr:i<(rngI 0 (a:Int)).length:=by rw[JS];omega
  rw[Zb hr,V0,Zc8,if_pos hi,Zb (show i<vs.length by omega)]
  simp only[ZbA,vAt]
  rw[show((0:Int)+(i:Int)).toNat=i by omega,Zb (show i<vs.length by omega)]
  rfl
 ·rw[Zb8 (by rw[JS];omega),Zc8,if_neg hi]
  rfl
section
variable {k:Nat}{h:IH}
theorem Jm4 {d:WD}{hs:List IV}{w:Nat}{s:Int}(hw:h[w]?=Za (.ins "Work" (wfs d.name d.gap d.len d.due d.late hs)))(hg:0<d.gap)(hl:d.gap.natAbs.log2<9000) :
  Jce (k+2) [.ref w,.int s] h=.ok (.int (cmn s d)) h:=by
 refine Jz ?_
 rw[Jh3]
 simp! [Jc4,JE hw,fl4,fl1,Jj0 hg hl,decide_eq_true_eq,decide_eq_false_iff_not,cmn]
 exact⟨λ q=>by rw[if_pos q],λ q=>by rw[if_neg q]⟩
theorem Jlq {h h0:IH}{it:I1}{e:E1}{js:List Nat}{σ:ISt}{xs:List IV}{chk:IH->Prop}{f:IV->IV}(hit:WR (it σ h0) λ J h1=>J.xs=xs/\J.chk=chk/\h1=h)(hl:xs.length<sizeLine)
  (hc:∀h2:IH,(∀(j:Nat)(ob:IX),h[j]?=Za ob->h2[j]?=Za ob)->chk h2)
  (he:∀x∈xs,∀h2:IH,(∀(j:Nat)(ob:IX),h[j]?=Za ob->h2[j]?=Za ob)->WR (e (Za x::js.map λ j=>(σ[j]?).join) h2) λ v h3=>v=f x/\Ex h2 h3) :
  ∃g,Ju it 1 js (gNm 0) J8 e σ h0=.ok (.ref h.length) (h++.lst (xs.map f)::g):=by
 obtain⟨v,h3,e,rfl,g,rfl⟩:=(Qm hit hl hc he).eq
 exact⟨g,e⟩
theorem Jqw {D a:Nat}{vs:List IV}{s2 s3 s4:Option IV}(hD:h[D]?=Za (.ins "Duty" (dfs vs)))(ha:a<=vs.length)(hv:vs.length<=12) :
  ∃g,Ju (iRg JR (Jb (Ja 1) Jd)) 1 [0] (gNm 0) J8 (XG (k+1)) [Za (.ref D),Za (.int (a:Int)),s2,s3,s4] h=.ok (.ref h.length) (h++.lst (vs.take a)::g):=by
 have hb:=JC
 have X:=@Jlq h h (iRg JR (Jb (Ja 1) Jd)) (XG (k+1)) [0] [Za (.ref D),Za (.int (a:Int)),s2,s3,s4] (rngI 0 (a:Int)) (λ _=>True) (vAt vs)
  (by simp! [true_and];exact⟨by omega,by omega⟩) (by rw[JS];omega) (λ _ _=>trivial) (by
   intro x hx h2 q
   obtain⟨n,hn,rfl⟩:=Zaw.mp hx
   rw[JS] at hn
   rw[V0,show(0:Int)+(n:Int)=n by omega]
   have hnv:n<vs.length:=by omega
   have av:atI vs (n:Int)=Za vs[n]:=Qd (Zb hnv)
   have eD:h2[D]?=Za (.ins "Duty" (dfs vs)):=q _ _ hD
   simp only[Zu,Zaz,ZY,Zag,ZaW]
   unfold XG
   rw[Q3 (i:=D) (h1:=h2) rfl eD dlw (XI _)]
   simp! [XJ eD av]
   refine⟨?_,.refl _⟩
   unfold vAt
   dsimp only
   rw[show(n:Int).toNat=n by omega,Zb hnv]
   rfl)
 rw[Jx0 vs a ha] at X
 exact X
theorem Jyk {r:Res IV}{h:IH}{P:Int->Prop}{f:Int->Int}(W:WR r λ v h'=>(∃z,P z/\v=.int (f z))/\Ex h h'):∃z h',P z/\r=.ok (.int (f z)) h'/\Ex h h':=by
 obtain⟨v,h',e,⟨z,p,rfl⟩,x⟩:=W.eq
 exact⟨z,h',p,e,x⟩
theorem Jww {D a:Nat}{vs:List IV}{rs:List RH}{s:Int}(y:Dty h D vs rs)(ha:a<rs.length)(h0:h[1]?=Za (.tab "longest_hold"))(hg:Jvi rs) :
  ∃z h',UpIs (fds (stB (rs.map (·.2)) a) (a+1) ((rs.map (·.2)).drop (a+1))) z/\X7 (k+5) [.ref D,.int (a:Int),.int s] h=.ok (.int (z+(rs[a]).1.len+J4 (rs.take a) s)) h'/\Ex h h':=by
 refine Jyk (P:=UpIs (fds (stB (rs.map (·.2)) a) (a+1) ((rs.map (·.2)).drop (a+1)))) (f:=λ z=>z+(rs[a]).1.len+J4 (rs.take a) s) ?_
 have hb:=JC
 have wl:=y.w.len
 have few:=y.few
 rw[Jv5]
 simp! [Jll]
 have Y0:=@Jqw (k+3) h D a vs (Za (.int s)) Zc Zc y.d (by omega) (by omega)
 generalize Ju (iRg JR (Jb (Ja 1) Jd)) 1 [0] (gNm 0) J8 (XG (k+3+1)) [Za (.ref D),Za (.int (a:Int)),Za (.int s),Zc,Zc] h=rc at Y0 ⊢
 obtain⟨g,rfl⟩:=Y0
 rw[QZ]
 have x1:Ex h (h++IX.lst (vs.take a)::g):=.cons _ _ _
 have gV:(h++IX.lst (vs.take a)::g)[h.length]?=Za (.lst (vs.take a)):=Jx
 generalize h.length=V at gV
 generalize h++IX.lst (vs.take a)::g=h1 at x1 gV
 have y1:=y.kp x1.kp
 have w1:=(y1.w.take a).w
 have rm:=w1.mapF (F:=aOfN s h1) (g:=λ d=>.int (cmn s d*d.len)) λ j d hs e=>by rw[aOfN,JE e,JE e,JE e,fl4,fl1,fl2];rfl
 simp! [Jlm]
 refine WR.mono (Qm (h:=h1) (xs:=vs.take a) (chk:=λ h'=>h'[V]?=Za (.lst (vs.take a))) (f:=aOfN s h1) ?_ (by rw[ZN];omega) (λ h2 q=>q _ _ gV) ?_) ?_
 ·simp! [JP,gV]
 ·intro v hv h2 q
  obtain⟨d,hd,j,hs,rfl,e⟩:=w1.of hv
  obtain⟨r,hr,rfl⟩:=Zz.mp hd
  have g:=hg r (Zaj hr)
  have e2:=q _ _ e
  have mf:Qt (cmn s r.1) r.1.len:=.inr (.inl g.2.2)
  simp only[Zu,Zaz,ZY,Zag,ZaW]
  simp! [Jhc,Jm4 e2 g.1 g.2.1,JE e2,fl2,mf]
  exact⟨by rw[aOfN,JE e,JE e,JE e,fl4,fl1,fl2];rfl,.refl _⟩
 ·rintro _ _ ⟨rfl,g2,rfl⟩
  rw[rm]
  have em:((rs.take a).map (·.1)).map (λ d=>IV.int (cmn s d*d.len))=((rs.take a).map λ r=>cmn s r.1*r.1.len).map IV.int:=by rw[Zco,Zco];rfl
  rw[em]
  have x2:Ex h1 (h1++IX.lst (((rs.take a).map λ r=>cmn s r.1*r.1.len).map IV.int)::g2):=.cons _ _ _
  simp! [Jrm,Jx,VC,Jln]
  generalize h1++IX.lst (((rs.take a).map λ r=>cmn s r.1*r.1.len).map IV.int)::g2=h2 at x2
  have y2:=y1.kp x2.kp
  refine WR.mono (Jnf (k:=k) y2 ha ((x1.trans x2).get h0)) ?_
  rintro _ h3 ⟨⟨z,rfl,up⟩,x3⟩
  have y3:=y2.kp x3.kp
  obtain⟨j,ej,gj⟩:=y3.w.at_ a _ _ (Zb (show a<vs.length by omega)) (Zb ha)
  have av:atI vs (a:Int)=Za (.ref j):=Qd (by rw[Zb (show a<vs.length by omega),ej])
  rw[Q3 (i:=D) (h1:=h3) rfl y3.d dlw (XI _)]
  simp! [XJ y3.d av,JE gj,fl2]
  exact⟨⟨z,up,rfl⟩,(x1.trans x2).trans x3⟩
end
theorem UpIs.uniq {F:List (Nat×Hd)}{z z':Int}(u:UpIs F z)(u':UpIs F z'):z=z':=by
 rcases u with⟨e,rfl⟩|⟨p,hp,rfl,a⟩
 ·rcases u' with⟨_,rfl⟩|⟨p',hp',_,_⟩
  ·rfl
  ·rw[e] at hp';cases hp'
 ·rcases u' with⟨e,rfl⟩|⟨p',hp',rfl,a'⟩
  ·rw[e] at hp;cases hp
  ·have:=a p' hp'
   have:=a' p hp
   omega
structure UpW (l:List (Nat×Hd))(z:Int):Prop where
 nn:0<=z
 of:z=0∨∃p∈l,z=tn p.2
 le:∀p∈l,tn p.2<=z
theorem UpW.add {l:List (Nat×Hd)}{z:Int}(u:UpW l z)(p:Nat×Hd):UpW (l++[p]) (if tn p.2>z then tn p.2 else z):=by
 have n0:=u.nn
 split
 ·rename_i q
  refine⟨by omega,.inr ⟨p,by simp,rfl⟩,λ p' hp'=>?_⟩
  rcases ZW.mp hp' with h|h
  ·have:=u.le p' h
   omega
  ·rw[ZE.mp h]
   exact Zbm _
 ·rename_i q
  refine⟨n0,u.of.imp id λ ⟨p',hp',e⟩=>⟨p',Zao _ hp',e⟩,λ p' hp'=>?_⟩
  rcases ZW.mp hp' with h|h
  ·exact u.le p' h
  ·rw[ZE.mp h]
   omega
theorem UpW.is {F:List (Nat×Hd)}{z:Int}(u:UpW F z)(pos:∀p∈F,0<=tn p.2):UpIs F z:=by
 rcases u.of with rfl|⟨p,hp,rfl⟩
 ·cases F with
  | nil=>exact .inl ⟨rfl,rfl⟩
  | cons p F =>
   refine .inr ⟨p,Zs,?_,λ p' hp'=>u.le p' hp'⟩
   have:=u.le p Zs
   have:=pos p Zs
   omega
 ·exact .inr ⟨p,hp,rfl,λ p' hp'=>u.le p' hp'⟩
theorem Jmz {t:T1}{b:S1}{σ:ISt}{h:IH}{N:ISt->IH->Prop}{R:IV->IH->Prop}(I:Nat->ISt->IH->Prop)
  (turn:∀m σ h,I m σ h->WR (t σ h) λ c h1=>(c=Zd->∃m',m=m'+1/\WS (b σ h1) (I m') R)/\(c=Zh->N σ h1)){m:Nat}(hm:m<1000000)(start:I m σ h):WS (VJ t b σ h) N R:=by
 have key:∀(n m:Nat)(σ:ISt)(h:IH),m<n->I m σ h->WS (Q2 t b n σ h) N R:=by
  intro n
  induction n with
  | zero=>intro m σ h hn _;omega
  | succ n ih =>
   intro m σ h hn hI
   obtain⟨c,h1,e,q1,q2⟩:=(turn m σ h hI).eq
   unfold Q2
   rw[e]
   cases c with
   | false=>exact q2 rfl
   | true =>
    obtain⟨m',rfl,w⟩:=q1 rfl
    simp only[if_true]
    cases eb:b σ h1 with
    | next σ2 h2=>rw[eb] at w;exact ih m' σ2 h2 (by omega) w
    | ret v h2=>rw[eb] at w;exact w
    | _=>rw[eb] at w;exact w.elim
 have et:VO=1000000:=by unfold VO;rfl
 rw[Jgm]
 exact key _ m σ h (by rw[et];exact hm) start
theorem Jth {x y g:Int}(hg:0<g)(h:x<=y):rup x g<=rup y g:=by
 unfold rup
 exact Int.ediv_le_ediv hg (by omega)
theorem Jhy {s t:Int}{d:WD}(hg:0<d.gap)(h1:1<=s)(h:s<=t):cmn s d<=cmn t d:=by
 unfold cmn
 rw[if_pos h1,if_pos (by omega)]
 exact Jth hg (by omega)
def cnt (rs:List RH)(s:Int):Int:=(rs.map λ r=>cmn s r.1).sum
theorem Jlp {s t:Int}(h1:1<=s)(h:s<=t):∀{rs:List RH},(∀r∈rs,0<r.1.gap)->cnt rs s<=cnt rs t
 | [],_=>Zbm _
 | r::rs,q=>by
  have:=Jlp h1 h (rs:=rs) λ r hr=>q r (Zn _ hr)
  have:=Jhy (d:=r.1) (q r Zs) h1 h
  unfold cnt at *
  rw[Zu,Zu,Zbl,Zbl]
  omega
theorem Jcz {s t:Int}(h1:1<=s)(h:s<=t):∀{rs:List RH},(∀r∈rs,0<r.1.gap/\0<=r.1.len)->J4 rs s<=J4 rs t
 | [],_=>Zbm _
 | r::rs,q=>by
  have a:=Jcz h1 h (rs:=rs) λ r hr=>q r (Zn _ hr)
  have b:=Zbh (Jhy (d:=r.1) (q r Zs).1 h1 h) (q r Zs).2
  unfold J4 at *
  rw[Zu,Zu,Zbl,Zbl]
  omega
theorem Jou {s t:Int}(h1:1<=s)(h:s<=t):∀{rs:List RH},(∀r∈rs,0<r.1.gap/\0<=r.1.len)->J4 rs s<J4 rs t->cnt rs s<cnt rs t
 | [],_,z=>absurd z (Int.lt_irrefl _)
 | r::rs,q,z=>by
  have q':∀r∈rs,0<r.1.gap/\0<=r.1.len:=λ r hr=>q r (Zn _ hr)
  have c1:=Jhy (d:=r.1) (q r Zs).1 h1 h
  have c2:=Jlp h1 h (rs:=rs) λ r hr=>(q' r hr).1
  have ih:=Jou h1 h q'
  unfold J4 cnt at *
  rw[Zu,Zu,Zbl,Zbl] at z ⊢
  by_cases e:cmn s r.1=cmn t r.1
  ·rw[e] at z ⊢
   have:=ih (by omega)
   omega
  ·omega
theorem Juk {s:Int}{d:WD}(hg:0<d.gap)(hl:0<=d.late):0<=cmn s d:=by
 unfold cmn
 split
 ·unfold rup
  exact Int.ediv_nonneg (by omega) (by omega)
 ·exact Zbm _
theorem Jov {s:Int}:∀{rs:List RH},(∀r∈rs,0<r.1.gap/\0<=r.1.late)->0<=cnt rs s
 | [],_=>Zbm _
 | r::rs,q=>by
  have a:=Jov (s:=s) (rs:=rs) λ r hr=>q r (Zn _ hr)
  have b:=Juk (s:=s) (d:=r.1) (q r Zs).1 (q r Zs).2
  unfold cnt at *
  rw[Zu,Zbl]
  omega
theorem Jfe {s:Int}:∀{rs:List RH},(∀r∈rs,0<r.1.gap/\0<=r.1.late/\0<=r.1.len)->0<=J4 rs s
 | [],_=>Zbm _
 | r::rs,q=>by
  have a:=Jfe (s:=s) (rs:=rs) λ r hr=>q r (Zn _ hr)
  obtain⟨q1,q2,q3⟩:=q r Zs
  have b:=Int.mul_nonneg (Juk (s:=s) (d:=r.1) q1 q2) q3
  unfold J4 at *
  rw[Zu,Zbl]
  omega
def ldF (z L:Int)(rs:List RH)(s:Int):Int:=z+L+J4 rs s
def J1k (ld:Int->Int)(far:Int)(v:IV):Prop :=
 (v=.non/\∀l,1<=l->l<=far->l<ld l)∨∃x,v=.int x/\1<=x/\x<=far/\ld x=x/\∀l,1<=l->l<x->l<ld l
section
variable {k:Nat}{h:IH}
theorem Jnh {d:WD}{hs:List IV}{w:Nat}{s:Int}(hw:h[w]?=Za (.ins "Work" (wfs d.name d.gap d.len d.due d.late hs))) :
  Jfr (k+1) [.ref w,.int s] h=.ok (.bl (decide (s+d.late<=d.due))) h:=by
 refine Jz ?_
 rw[Jm9]
 simp! [Jfv,JE hw,fl4,fl3]
theorem Jod {D a:Nat}{vs:List IV}{rs:List RH}{z:Int}(y:Dty h D vs rs)(ha:a<rs.length)(h0:h[1]?=Za (.tab "longest_hold"))(hg:Jvi rs)(nn:∀r∈rs,0<=r.1.late/\1<=r.1.len)
  (up:UpIs (fds (stB (rs.map (·.2)) a) (a+1) ((rs.map (·.2)).drop (a+1))) z)(z0:0<=z)(few:∀s,1<=s->s+(rs[a]).1.late<=(rs[a]).1.due->cnt (rs.take a) s<=100) :
  WR (X3 (k+6) [.ref D,.int (a:Int)] h) λ v h'=>J1k (ldF z (rs[a]).1.len (rs.take a)) ((rs[a]).1.due-(rs[a]).1.late) v/\Ex h h':=by
 have hb:=JC
 have wl:=y.w.len
 have q1:∀r∈rs.take a,0<r.1.gap/\0<=r.1.len:=λ r hr=>⟨(hg r (Zaj hr)).1,by have:=(nn r (Zaj hr)).2;omega⟩
 have q2:∀r∈rs.take a,0<r.1.gap/\0<=r.1.late:=λ r hr=>⟨(hg r (Zaj hr)).1,(nn r (Zaj hr)).1⟩
 have q3:∀r∈rs.take a,0<r.1.gap/\0<=r.1.late/\0<=r.1.len:=λ r hr=>⟨(q2 r hr).1,(q2 r hr).2,(q1 r hr).2⟩
 have lp:=(nn _ (ZI ha)).2
 rw[Jpc]
 simp! [Jg5,Jg6]
 refine Jmz (λ m σ h'=>Ex h h'/\∃(line:Int)(c:Option IV),σ=[Za (.ref D),Za (.int (a:Int)),Za (.int line),c]/\1<=line/\line<=ldF z (rs[a]).1.len (rs.take a) line/\(∀l,1<=l->l<line->l<ldF z (rs[a]).1.len (rs.take a) l) /\
  (line+(rs[a]).1.late<=(rs[a]).1.due->1<=m/\(ldF z (rs[a]).1.len (rs.take a) line=line∨102<=(m:Int)+cnt (rs.take a) line))) ?_ (m:=102) (by decide) ⟨.refl _,1,Zc,rfl,by omega,?_,λ l a b=>by omega,λ _=>?_⟩
 ·rintro m _ h1 ⟨x1,line,c,rfl,l1,lge,below,cn⟩
  have y1:=y.kp x1.kp
  obtain⟨j,ej,gj⟩:=y1.w.at_ a _ _ (Zb (show a<vs.length by omega)) (Zb ha)
  have av:atI vs (a:Int)=Za (.ref j):=Qd (by rw[Zb (show a<vs.length by omega),ej])
  simp! [true_and]
  rw[Q3 (i:=D) (h1:=h1) rfl y1.d dlw (XI _)]
  simp! [XJ y1.d av,Jnh gj,decide_eq_true_eq,decide_eq_false_iff_not]
  refine⟨λ t=>?_,λ t=>?_⟩
  ·have fw:=few line l1 t
   obtain⟨m1,cn⟩:=cn t
   refine⟨m-1,by omega,?_⟩
   simp! [Jgi]
   have Z:∃z h',UpIs (fds (stB (rs.map (·.2)) a) (a+1) ((rs.map (·.2)).drop (a+1))) z/\X7 (k+5) [.ref D,.int (a:Int),.int line] h1=.ok (.int (z+(rs[a]).1.len+J4 (rs.take a) line)) h'/\Ex h1 h':=Jww (k:=k) (s:=line) y1 ha (x1.get h0) hg
   generalize X7 (k+5) [.ref D,.int (a:Int),.int line] h1=rF at Z ⊢
   obtain⟨z',h2,up',rfl,x2⟩:=Z
   rw[QZ]
   have ez:=up'.uniq up
   subst ez
   have el:z'+(rs[a]).1.len+J4 (rs.take a) line=ldF z' (rs[a]).1.len (rs.take a) line:=rfl
   rw[el]
   simp! [decide_eq_true_eq,decide_eq_false_iff_not]
   refine⟨λ le=>?_,λ gt=>?_⟩
   ·exact⟨.inr ⟨line,rfl,l1,by omega,by omega,below⟩,x1.trans x2⟩
   ·generalize hn:ldF z' (rs[a]).1.len (rs.take a) line=nx at *
    have gt:line<nx:=by omega
    have mono:∀l,line<=l->nx<=ldF z' (rs[a]).1.len (rs.take a) l:=λ l hl'=>by
     rw[<- hn]
     have:=Jcz l1 hl' q1
     unfold ldF
     omega
    refine⟨x1.trans x2,nx,_,rfl,by omega,mono nx (by omega),λ l a1 a2=>?_,λ t2=>?_⟩
    ·by_cases hl':l<line
     ·exact below l a1 hl'
     ·have:=mono l (by omega)
      omega
    ·have cn:=cn.resolve_left (by omega)
     refine⟨by omega,?_⟩
     by_cases e:J4 (rs.take a) line=J4 (rs.take a) nx
     ·left
      unfold ldF at hn ⊢
      omega
     ·right
      have:=Jcz l1 (show line<=nx by omega) q1
      have:=Jou l1 (show line<=nx by omega) q1 (by omega)
      omega
  ·simp! [Jg7]
   exact⟨.inl ⟨rfl,λ l a1 a2=>below l a1 (by omega)⟩,x1⟩
 ·have:=Jfe (s:=1) q3
  unfold ldF
  omega
 ·have:=Jov (s:=1) q2
  exact⟨by omega,.inr (by omega)⟩
end
def Fit (S:List RH)(r:RH)(W:List RH):Prop:=∃s,1<=s/\s+r.1.late<=r.1.due/\r.1.len+J4 S s<=s /\
 ∀w∈W,∀b∈w.2,(∃t∈r::S,∃c∈t.2,c.1=b.1)->tn b+r.1.len+J4 S s<=s
structure WorkF (r:RH):Prop where
 g:0<r.1.gap
 l:1<=r.1.len
 t:0<=r.1.late
 h:∀b∈r.2,0<=tn b/\tn b+1<=r.1.len
theorem Vp (r:RH)(S:List RH)(s:Int):J4 (r::S) s=cmn s r.1*r.1.len+J4 S s:=by
 unfold J4
 rw[Zu,Zbl]
theorem Jm1 {S S':List RH}(p:S.Perm S')(s:Int):J4 S s=J4 S' s:=by
 induction p with
 | nil=>rfl
 | cons x _ ih=>rw[Vp,Vp,ih]
 | swap x y l=>rw[Vp,Vp,Vp,Vp];omega
 | trans _ _ a b=>rw[a,b]
theorem Fit.perm {S S' W W':List RH}{r:RH}(p:S.Perm S')(q:W.Perm W')(f:Fit S r W):Fit S' r W':=by
 obtain⟨s,a,b,c,d⟩:=f
 rw[Jm1 p] at c d
 refine⟨s,a,b,c,λ w hw b' hb ⟨t,ht,e⟩=>d w (q.mem_iff.mpr hw) b' hb ⟨t,?_,e⟩⟩
 rcases ZH.mp ht with rfl|ht
 ·exact Zs
 ·exact Zn _ (p.mem_iff.mpr ht)
theorem Jvr {s:Int}{d:WD}(h1:1<=s)(hg:0<d.gap)(hl:0<=d.late):1<=cmn s d:=by
 unfold cmn rup
 rw[if_pos h1]
 exact(Zec hg).mpr (by omega)
theorem Fit.lower {S W:List RH}{r x:RH}(hx:WorkF x)(f:Fit (x::S) r W):Fit S r (x::W):=by
 obtain⟨s,a,b,c,d⟩:=f
 have cp:=Jvr a hx.g hx.t
 have hl:=hx.l
 have m:x.1.len<=cmn s x.1*x.1.len:=by
  have:=Zbh cp (show 0<=x.1.len by omega)
  omega
 rw[Vp] at c
 refine⟨s,a,b,by omega,λ w hw b' hb ⟨t,ht,e⟩=>?_⟩
 rcases ZH.mp hw with rfl|hw
 ·have:=(hx.h b' hb).2
  omega
 ·have:=d w hw b' hb ⟨t,by
   rcases ZH.mp ht with rfl|ht
   ·exact Zs
   ·exact Zn _ (Zn _ ht),e⟩
  rw[Vp] at this
  omega
theorem Fit.lowers {S:List RH}{r:RH}:∀(X:List RH){W:List RH},(∀x∈X,WorkF x)->Fit (X++S) r W->Fit S r (X++W)
 | [],_,_,f=>f
 | x::X,W,hx,f=>by
  have f1:=Fit.lower (S:=X++S) (hx x Zs) f
  have f2:=Fit.lowers X (W:=x::W) (λ y hy=>hx y (Zn _ hy)) f1
  exact f2.perm (.refl _) ZdV
def JH:List RH->List RH->Prop
 | _,[]=>True
 | S,r::W=>Fit S r W/\JH (S++[r]) W
theorem JH.snoc:∀{W S:List RH}{r:RH},JH S (W++[r])->Fit (S++W) r []
 | [],S,r,h=>by rw[Za2];exact h.1
 | w::W,S,r,h=>by
  have:=JH.snoc (W:=W) (S:=S++[w]) h.2
  rw[ZF] at this
  exact this
theorem JH.at_:∀{W S:List RH},JH S W->∀(A B:List RH)(r:RH),W=A++r::B->Fit (S++A) r B
 | _,S,h,[],B,r,e=>by subst e;rw[Za2];exact h.1
 | _,S,h,a::A,B,r,e=>by
  subst e
  have:=JH.at_ (W:=A++r::B) (S:=S++[a]) h.2 A B r rfl
  rw[ZF] at this
  exact this
theorem Jiv:∀{W S:List RH},(∀(A B:List RH)(r:RH),W=A++r::B->Fit (S++A) r B)->JH S W
 | [],_,_=>trivial
 | w::W,S,h=>⟨by have:=h [] W w rfl;rwa [Za2] at this,Jiv λ A B r e=>by
  have:=h (w::A) B r (by rw[e];rfl)
  rwa [ZF]⟩
theorem JH.above {S S':List RH}(p:S.Perm S'):∀{W:List RH},JH S W->JH S' W
 | [],_=>trivial
 | _::_,h=>⟨h.1.perm p (.refl _),JH.above (p.append (.refl _)) h.2⟩
theorem Jqy {f:Nat->RH}{o left below:List Nat}(hw:∀a∈o,WorkF (f a))(ho:o.Perm (left++below))(nd:o.Nodup)(ne:left≠[])
  (all:JH [] (o.map f)):∃a∈left,Fit ((left.filter λ b=>decide (b≠a)).map f) (f a) (below.map f):=by
 have key:∀(A B:List Nat),o=A++B->(∃a∈A,a∈left)->(∀b∈B,b∉left)->∃A' a B',o=A'++a::B'/\a∈left/\∀b∈B',b∉left:=by
  intro A
  induction hn:A.length generalizing A with
  | zero =>
   rintro B e ⟨a,ha,_⟩
   rw[ZdW.mp hn] at ha
   cases ha
  | succ n ih =>
   intro B e hA hB
   have ne:A≠[]:=λ z=>by rw[z] at hn;cases hn
   obtain⟨A1,x,rfl⟩:∃A1 x,A=A1++[x]:=⟨_,_,(List.dropLast_concat_getLast ne).symm⟩
   by_cases hx:x∈left
   ·exact⟨A1,x,B,by rw[e,ZF];rfl,hx,hB⟩
   ·refine ih A1 (by rw[ZD] at hn;exact Nat.succ.inj hn) (x::B) (by rw[e,ZF];rfl) ?_ λ b hb=>?_
    ·obtain⟨a,ha,hl⟩:=hA
     rcases ZW.mp ha with ha|ha
     ·exact⟨a,ha,hl⟩
     ·rw[ZE.mp ha] at hl
      exact absurd hl hx
    ·rcases ZH.mp hb with rfl|hb
     ·exact hx
     ·exact hB b hb
 obtain⟨a0,ha0⟩:=List.exists_mem_of_ne_nil _ ne
 obtain⟨A,a,B,e,ha,hB⟩:=key o [] (Za2 _).symm ⟨a0,ho.mem_iff.mpr (Zao _ ha0),ha0⟩ (λ b hb=>by cases hb)
 refine⟨a,ha,?_⟩
 have nd2:(left++below).Nodup:=ho.nodup_iff.mp nd
 have ndA:=nd
 rw[e] at ndA hw
 have dis:∀x,x∈left->x∉below:=λ x h1 h2=>(Zav.mp nd2).2.2 x h1 x h2 rfl
 have ndl:left.Nodup:=(Zav.mp nd2).1
 have ndb:below.Nodup:=(Zav.mp nd2).2.1
 have ndA1:A.Nodup:=(Zav.mp ndA).1
 have anA:a∉A:=λ z=>(Zav.mp ndA).2.2 a z a Zs rfl
 have anB:a∉B:=(Zbd.mp (Zav.mp ndA).2.1).1
 have ndB:B.Nodup:=(Zbd.mp (Zav.mp ndA).2.1).2
 have disAB:∀x,x∈A->x∉B:=λ x h1 h2=>(Zav.mp ndA).2.2 x h1 x (Zn _ h2) rfl
 have mo:∀x,(x∈A∨x=a∨x∈B)↔(x∈left∨x∈below):=λ x=>by
  have:=ho.mem_iff (a:=x)
  rw[e,ZW,ZH,ZW] at this
  exact this
 have fit:=all.at_ (A.map f) (B.map f) (f a) (by rw[e,Zbr,Zu])
 rw[Za3] at fit
 -- A: those that are left, and those that are not
 have p1:(A.filter (λ x=>decide (x∉left))++left.filter λ b=>decide (b≠a)).Perm A:=by
  refine(Zb6 ?_ ndA1).mpr λ x=>?_
  ·refine Zav.mpr ⟨ndA1.filter _,ndl.filter _,λ x h1 y h2 z=>?_⟩
   subst z
   exact of_decide_eq_true (Zak.mp h1).2 (Zak.mp h2).1
  ·simp only[ZW,Zak,decide_eq_true_eq]
   constructor
   ·rintro(h|⟨h1,h2⟩)
    ·exact h.1
    ·rcases(mo x).mpr (.inl h1) with h|h|h
     ·exact h
     ·exact absurd h h2
     ·exact absurd h1 (hB x h)
   ·intro h
    by_cases hx:x∈left
    ·exact .inr ⟨hx,λ z=>anA (z▸h)⟩
    ·exact .inl ⟨h,hx⟩
 have p2:(A.filter (λ x=>decide (x∉left))++B).Perm below:=by
  refine(Zb6 ?_ ndb).mpr λ x=>?_
  ·refine Zav.mpr ⟨ndA1.filter _,ndB,λ x h1 y h2 z=>?_⟩
   subst z
   exact disAB x (Zak.mp h1).1 h2
  ·simp only[ZW,Zak,decide_eq_true_eq]
   constructor
   ·rintro(⟨h1,h2⟩|h)
    ·exact((mo x).mp (.inl h1)).resolve_left h2
    ·exact((mo x).mp (.inr (.inr h))).resolve_left (hB x h)
   ·intro h
    have hx:x∉left:=λ z=>dis x z h
    rcases(mo x).mpr (.inr h) with h|h|h
    ·exact .inl ⟨h,hx⟩
    ·rw[h] at hx
     exact absurd ha hx
    ·exact .inr h
 have f1:=fit.perm ((p1.map f).symm) (.refl _)
 rw[Zbr] at f1
 have f2:=f1.lowers _ λ x hx=>by
  obtain⟨y,hy,rfl⟩:=Zz.mp hx
  exact hw y (Zao _ (Zak.mp hy).1)
 rw[<- Zbr] at f2
 exact f2.perm (.refl _) (p2.map f)
theorem J09 (F:List (Nat×Hd)):∃z,UpIs F z:=by
 rcases Jom F with⟨e1,_⟩|⟨p,hp,_,al⟩
 ·exact⟨0,.inl ⟨e1,rfl⟩⟩
 ·exact⟨_,.inr ⟨p,hp,rfl,al⟩⟩
def zU (rs:List RH)(a:Nat):Int:=Classical.choose (J09 (fds (stB (rs.map (·.2)) a) (a+1) ((rs.map (·.2)).drop (a+1))))
theorem Jug (rs:List RH)(a:Nat):UpIs (fds (stB (rs.map (·.2)) a) (a+1) ((rs.map (·.2)).drop (a+1))) (zU rs a):=Classical.choose_spec (J09 _)
theorem Jwy {st:Hd->Bool}{l:List (List Hd)}{t:Int}:t∈tns st l↔∃hs∈l,∃b∈hs,st b=Zd/\tn b=t:=by
 unfold tns
 rw[Zcp]
 constructor
 ·rintro⟨m,hm,ht⟩
  obtain⟨hs,h1,rfl⟩:=Zz.mp hm
  obtain⟨b,hb,e⟩:=Zz.mp ht
  obtain⟨h2,h3⟩:=Zak.mp hb
  exact⟨hs,h1,b,h2,h3,e⟩
 ·rintro⟨hs,h1,b,h2,h3,e⟩
  exact⟨_,Zz.mpr ⟨hs,h1,rfl⟩,Zz.mpr ⟨b,Zak.mpr ⟨h2,h3⟩,e⟩⟩
theorem Ju9 {rs:List RH}{a:Nat}{r:RH}(e:rs[a]?=Za r)(b:Hd):stB (rs.map (·.2)) a b=Zd↔∃t∈r::rs.take a,∃c∈t.2,c.1=b.1:=by
 rw[<- J0y,ZbR,<-Ze2,List.take_succ,e]
 unfold sgs
 constructor
 ·rintro⟨x,hx,q⟩
  obtain⟨m,hm,hx⟩:=Zcp.mp hx
  obtain⟨hs,h1,rfl⟩:=Zz.mp hm
  obtain⟨t,ht,rfl⟩:=Zz.mp h1
  obtain⟨c,hc,rfl⟩:=Zz.mp hx
  refine⟨t,?_,c,hc,of_decide_eq_true q⟩
  rcases ZW.mp ht with z|z
  ·exact Zn _ z
  ·rw[show t=r from ZE.mp z]
   exact Zs
 ·rintro⟨t,ht,c,hc,q⟩
  refine⟨c.1,Zcp.mpr ⟨_,Zz.mpr ⟨t.2,Zz.mpr ⟨t,?_,rfl⟩,rfl⟩,Zz.mpr ⟨c,hc,rfl⟩⟩,decide_eq_true q⟩
  rcases ZH.mp ht with rfl|z
  ·exact Zx _ (ZE.mpr rfl)
  ·exact Zao _ z
theorem Jyq {rs:List RH}{a:Nat}{r:RH}{y:Int}(e:rs[a]?=Za r)(hw:∀x∈rs,WorkF x) :
  zU rs a<=y↔0<=y/\∀w∈rs.drop (a+1),∀b∈w.2,(∃t∈r::rs.take a,∃c∈t.2,c.1=b.1)->tn b<=y:=by
 have mF:∀t,(∃p∈fds (stB (rs.map (·.2)) a) (a+1) ((rs.map (·.2)).drop (a+1)),tn p.2=t)↔∃w∈rs.drop (a+1),∃b∈w.2,(∃t∈r::rs.take a,∃c∈t.2,c.1=b.1)/\tn b=t:=λ t=>by
  rw[<- Zz (f:=λ p:Nat×Hd=>tn p.2),Jo9,Jwy,<-ZdH]
  constructor
  ·rintro⟨hs,h1,b,h2,h3,h4⟩
   obtain⟨w,hw',rfl⟩:=Zz.mp h1
   exact⟨w,hw',b,h2,(Ju9 e b).mp h3,h4⟩
  ·rintro⟨w,h1,b,h2,h3,h4⟩
   exact⟨w.2,Zz.mpr ⟨w,h1,rfl⟩,b,h2,(Ju9 e b).mpr h3,h4⟩
 have z0:0<=zU rs a/\∀p∈fds (stB (rs.map (·.2)) a) (a+1) ((rs.map (·.2)).drop (a+1)),tn p.2<=zU rs a:=by
  rcases Jug rs a with⟨e0,ez⟩|⟨p,hp,ez,al⟩
  ·rw[e0,ez]
   exact⟨by omega,λ p hp=>by cases hp⟩
  ·obtain⟨w,h1,b,h2,_,h4⟩:=(mF _).mp ⟨p,hp,rfl⟩
   have:=((hw w (Zck h1)).h b h2).1
   exact⟨by omega,al⟩
 constructor
 ·intro le
  refine⟨by omega,λ w h1 b h2 h3=>?_⟩
  obtain⟨p,hp,q⟩:=(mF (tn b)).mpr ⟨w,h1,b,h2,h3,rfl⟩
  have:=z0.2 p hp
  omega
 ·rintro⟨y0,al⟩
  rcases Jug rs a with⟨e0,ez⟩|⟨p,hp,ez,_⟩
  ·omega
  ·obtain⟨w,h1,b,h2,h3,h4⟩:=(mF _).mp ⟨p,hp,rfl⟩
   have:=al w h1 b h2 h3
   omega
theorem Jpa {rs:List RH}{a:Nat}{r:RH}(e:rs[a]?=Za r)(hw:∀x∈rs,WorkF x) :
  Fit (rs.take a) r (rs.drop (a+1))↔∃s,1<=s/\s+r.1.late<=r.1.due/\ldF (zU rs a) r.1.len (rs.take a) s<=s:=by
 unfold Fit ldF
 refine exists_congr λ s=>and_congr_right λ _=>and_congr_right λ _=>?_
 have:=Jyq (y:=s-r.1.len-J4 (rs.take a) s) e hw
 constructor
 ·rintro⟨h1,h2⟩
  have:=this.mpr ⟨by omega,λ w q1 b q2 q3=>by have:=h2 w q1 b q2 q3;omega⟩
  omega
 ·intro h1
  obtain⟨q1,q2⟩:=this.mp (by omega)
  exact⟨by omega,λ w p1 b p2 p3=>by have:=q2 w p1 b p2 p3;omega⟩
structure Dw (rs:List RH)(top N:Int):Prop where
 w:∀r∈rs,WorkF r
 s:∀r∈rs,1<=r.1.due/\r.1.due<=r.1.gap/\r.1.gap<=9000000000000000/\r.1.len<=9000000000000000
 o:∀r∈rs,HsOk r.1.len r.2
 t:∀r∈rs,r.1.due<=top/\top+r.1.late<=N*r.1.gap
 n:N*(rs.length:Int)<=80
 n0:0<=N
 l:rs.length<=12
theorem Dw.perm {rs rs':List RH}{top N:Int}(q:Dw rs top N)(p:rs.Perm rs'):Dw rs' top N :=
 ⟨λ r h=>q.w r (p.mem_iff.mpr h),λ r h=>q.s r (p.mem_iff.mpr h),λ r h=>q.o r (p.mem_iff.mpr h),λ r h=>q.t r (p.mem_iff.mpr h),p.length_eq▸q.n,q.n0,p.length_eq▸q.l⟩
theorem Dw.gaps {rs:List RH}{top N:Int}(q:Dw rs top N):Jvi rs:=λ r hr=>by
 have t60:(9000000000000000:Int)<=10^60:=by decide +kernel
 obtain⟨a1,a2,a3,a4⟩:=q.s r hr
 have a5:=(q.w r hr).g
 have a6:=(q.w r hr).l
 exact⟨by omega,Jp4 (by omega) (by omega),by omega⟩
section
variable {k:Nat}{h:IH}{D a:Nat}{vs:List IV}{rs:List RH}{top N:Int}
theorem Jrw (y:Dty h D vs rs)(t:h[1]?=Za (.tab "longest_hold"))(q:Dw rs top N)(ha:a<rs.length) :
  WR (X3 (k+6) [.ref D,.int (a:Int)] h) λ v h'=>((v=.non/\¬Fit (rs.take a) rs[a] (rs.drop (a+1)))∨((∃x,v=.int x)/\Fit (rs.take a) rs[a] (rs.drop (a+1))))/\Ex h h':=by
 have e:=Zb ha
 have few:∀s,1<=s->s+(rs[a]).1.late<=(rs[a]).1.due->cnt (rs.take a) s<=100:=λ s s1 s2=>by
  have b1:=(q.t _ (ZI ha)).1
  have b2:=(q.w _ (ZI ha)).t
  have:=Jmg N ((rs.take a).map λ r=>cmn s r.1) λ x hx=>by
   obtain⟨r,hr,rfl⟩:=Zz.mp hx
   have hr:=Zaj hr
   have c1:=(q.t r hr).2
   unfold cmn
   rw[if_pos s1]
   exact Jqk (q.w r hr).g (by omega)
  rw[Zp,ZN] at this
  have m:=Zbh (show((min a rs.length:Nat):Int)<=(rs.length:Int) by omega) q.n0
  have n:=q.n
  rw[ZeK] at n
  exact Zbx this (Zbx m (Zbx n (by decide)))
 refine WR.mono (Jod (k:=k) y ha t q.gaps (λ r hr=>⟨(q.w r hr).t,(q.w r hr).l⟩) (Jug rs a) ((Jyq e q.w).mp (Zbm _)).1 few) ?_
 rintro v h' ⟨an,x⟩
 refine⟨?_,x⟩
 rw[Jpa e q.w]
 rcases an with⟨rfl,no⟩|⟨y,rfl,y1,y2,y3,_⟩
 ·refine .inl ⟨rfl,λ ⟨s,s1,s2,s3⟩=>?_⟩
  have:=no s s1 (by omega)
  omega
 ·exact .inr ⟨⟨y,rfl⟩,y,y1,by omega,by omega⟩
end
abbrev ni (l:List Nat):List IV:=(l.map λ n:Nat=>(n:Int)).map IV.int
def rd:RH:=⟨⟨⟨#[]⟩,0,0,0,0⟩,[]⟩
def pk (rs:List RH)(os:List Nat):List RH:=os.map λ n=>rs.getD n rd
theorem Jtd (rs:List RH):pk rs (Z8 rs.length)=rs:=by
 refine Zcc λ i=>?_
 by_cases hi:i<rs.length
 ·simp[pk,hi,Zw]
 ·simp[pk,hi]
theorem Jkw {rs:List RH}{os:List Nat}(p:os.Perm (Z8 rs.length)):(pk rs os).Perm rs:=by
 have:=p.map λ n=>rs.getD n rd
 rw[show(Z8 rs.length).map (λ n=>rs.getD n rd)=rs from Jtd rs] at this
 exact this
theorem Dw.crowd {rs:List RH}{top N:Int}(q:Dw rs top N):Jlr (rs.map (·.1))<=80:=by
 by_cases hn:rs=[]
 ·subst hn
  exact(by decide:(0:Int)<=80)
 have pos:0<rs.length:=List.length_pos_iff.mpr hn
 have ht:topD (rs.map (·.1))<=top:=by
  unfold topD
  rw[if_neg (by simpa using hn)]
  refine Jvb _ _ _ (by rw[Zp,Zp];exact pos) λ j hj=>?_
  rw[Zp,Zp] at hj
  have e:((rs.map (·.1)).map (·.due)).getD j 0=(rs[j]).1.due:=by
   rw[Zw,Z7,Z7,Zb hj];rfl
  show((rs.map (·.1)).map (·.due)).getD j 0<=_
  rw[e]
  exact(q.t _ (ZI hj)).1
 have:=Jmg N ((rs.map (·.1)).map λ d=>rup (topD (rs.map (·.1))+d.late) d.gap) λ x hx=>by
  obtain⟨d,hd,rfl⟩:=Zz.mp hx
  obtain⟨r,hr,rfl⟩:=Zz.mp hd
  have f1:=(q.t r hr).2
  exact Jqk (q.w r hr).g (by omega)
 rw[Zp,Zp] at this
 have n:=q.n
 rw[ZeK] at n
 unfold Jlr
 exact Zbx this n
structure D71 (h:IH)(D:Nat)(rs:List RH)(top N:Int):Prop where
 y:∃vs,Dty h D vs rs
 t:h[1]?=Za (.tab "longest_hold")
 q:Dw rs top N
 nd:(rs.map λ r=>r.1.name).Nodup
theorem D71.kp {h h':IH}{D:Nat}{rs:List RH}{top N:Int}(k:Kp h h')(d:D71 h D rs top N):D71 h' D rs top N:=⟨d.y.imp λ _ y=>y.kp k,k _ _ d.t,d.q,d.nd⟩
section
variable {k:Nat}{h:IH}
theorem Jup {vs:List IV}{rs:List RH}{top N:Int}{i:Nat}(hi:h[i]?=Za (.lst vs))(w:AllH h vs rs)(t:h[1]?=Za (.tab "longest_hold"))(q:Dw rs top N)(nd:(rs.map λ r=>r.1.name).Nodup) :
  WR (Xz (k+3) [.ref h.length,.ref i] (h++[.ins "Duty" []])) λ v h'=>v=.non/\Ex h h'/\D71 h' h.length rs top N:=by
 have hl:=q.l
 refine WR.mono (Jo1 hi w.w (by rwa [Zco]) (by rw[Zp];omega) (λ d hd=>by
  obtain⟨r,hr,rfl⟩:=Zz.mp hd
  exact⟨(q.gaps r hr).1,(q.gaps r hr).2.1⟩) q.crowd) ?_
 rintro _ _ ⟨rfl,g,rfl⟩
 exact⟨rfl,.cons _ _ _,⟨vs,Jx,w.kp (Ex.cons _ _ _).kp,hl,λ r hr=>⟨(q.o r hr).few,λ a ha=>((q.o r hr).each a ha).1⟩⟩,(Ex.cons _ _ _).get t,q,nd⟩
theorem Jyz {i n:Nat}{ls:List Int}(e:h[i]?=Za (.lst (ls.map .int))):toD h (n+1) (.ref i)=Za (.list (ls.map ZcA)):=by
 rw[Jk5 e]
 have:∀ls:List Int,(ls.map IV.int).mapM (toD h n)=Za (ls.map ZcA):=by
  intro ls
  induction ls with
  | nil=>rfl
  | cons a r ih =>
   have e:toD h n (.int a)=Za (.int a):=by cases n<;>rfl
   rw[Zu,ZcQ,e,ih]
   rfl
 rw[this]
 rfl
theorem Jp2:∀as:List Int,ZR (as.map ZcA)=Zd
 | []=>rfl
 | _::r=>by
  rw[Zu,ZR,Jp2 r]
  simp[ZaG]
theorem Ju0 {i j:Nat}{ls:List Int}(hi:h[i]?=Za (.lst (ls.map .int)))(hj:h[j]?=Za (.lst (ls.map .int))):cNe (.ref i) (.ref j) h=.ok (.bl Zh) h :=
 Jz4 (Jyz hi) (Jyz hj) (by rw[ZaG];exact Jp2 ls)
theorem Jkg {os:List Nat}{n:Nat}(p:os.Perm (Z8 n)):Xo (os.map λ n:Nat=>(n:Int))=(Z8 n).map λ n:Nat=>(n:Int):=by
 refine(Jmd ((p.map _).symm) ?_).symm
 rw[List.pairwise_map]
 exact List.pairwise_le_range.imp λ h=>by omega
theorem Xl (m:Nat):rngI 0 (m:Int)=ni (Z8 m):=by rw[Jqh];simp
theorem Jjz {D O:Nat}{rs:List RH}{os:List Nat}{top N:Int}(d:D71 h D rs top N)(hO:h[O]?=Za (.lst (ni os)))(p:os.Perm (Z8 rs.length)) :
  WR (Jal (k+4) [.ref D,.ref O] h) λ v h'=>∃D',v=.ref D'/\Ex h h'/\D71 h' D' (pk rs os) top N:=by
 have hb:=JC
 obtain⟨vs,gD,w,few,_⟩:=d.y
 have wl:=w.len
 have lo:os.length=rs.length:=by rw[p.length_eq,Zbp]
 have ln:(ni os).length=os.length:=by simp
 rw[Jew]
 simp! [Jaz,Xs hO]
 refine WR.mono (Qm (h:=h) (xs:=ni os) (chk:=λ h'=>h'[O]?=Za (.lst (ni os))) (f:=λ _=>.bl Zd) ?_ (by omega) (λ h2 q=>q _ _ hO) ?_) ?_
 ·simp! [JP,hO]
 ·intro v hv h2 q
  obtain⟨a,ha,rfl⟩:=Zz.mp hv
  simp! [Jao,Je8]
  exact .refl _
 ·rintro _ _ ⟨rfl,g,rfl⟩
  have x1:Ex h (h++IX.lst ((ni os).map λ _=>.bl Zd)::g):=.cons _ _ _
  rw[all_map (f:=λ _=>Zd) Jx]
  generalize h++IX.lst ((ni os).map λ _=>.bl Zd)::g=h1 at x1
  have at1:((ni os).all λ _=>Zd)=Zd:=by simp
  have hO1:=x1.get hO
  have gD1:=x1.get gD
  simp! [at1,Ja0]
  have es:QX (.ref O) h1=.ok (.ref h1.length) (h1++[.lst (ni (Z8 rs.length))]):=by
   dsimp only[QX]
   rw[hO1]
   dsimp only
   rw[if_pos (by omega),srtI,VC]
   dsimp only
   rw[Jkg p]
  rw[es,QZ]
  have x2:Ex h1 (h1++[IX.lst (ni (Z8 rs.length))]):=.one _ _
  dsimp! [Jyc]
  rw[Q3 (i:=D) (h1:=h1++[IX.lst (ni (Z8 rs.length))]) rfl (x2.get gD1) (by kernel_rfl) (Jba _)]
  simp! [Jeh (x2.get gD1),wl,Zdk]
  refine⟨by omega,?_⟩
  rw[Xl]
  have x3:Ex (h1++[IX.lst (ni (Z8 rs.length))]) (h1++[IX.lst (ni (Z8 rs.length))]++[IX.lst (ni (Z8 rs.length))]):=.one _ _
  rw[Ju0 (x3.get Jq) Jq]
  have x13:=(x1.trans x2).trans x3
  generalize h1++[IX.lst (ni (Z8 rs.length))]++[IX.lst (ni (Z8 rs.length))]=h3 at x13
  clear x3 x2 x1 hO1 gD1 es
  have hO3:=x13.get hO
  have gD3:=x13.get gD
  simp! [Ja1]
  refine WR.mono (Qm (h:=h3) (xs:=ni os) (chk:=λ h'=>h'[O]?=Za (.lst (ni os))) (f:=λ v=>match v with|.int n=>vs.getD n.toNat .non|_=>.non) ?_ (by omega) (λ h2 q=>q _ _ hO3) ?_) ?_
  ·simp! [JP,hO3]
  ·intro v hv h4 q
   obtain⟨a,ha,rfl⟩:=Zz.mp hv
   obtain⟨n,hn,rfl⟩:=Zz.mp ha
   have hn':n<vs.length:=by rw[wl];exact ZaP.mp (p.mem_iff.mp hn)
   have ea:atI vs (n:Int)=Za vs[n]:=Qd (Zb hn')
   simp only[Zu,Zaz,ZY,Zag,ZaW]
   simp! [Jap,JE (q _ _ gD3),dl0,ea]
   exact⟨by simp[Zw,hn'],.refl _⟩
  ·rintro _ _ ⟨rfl,g4,rfl⟩
   generalize hvs:(ni os).map (λ v=>match v with|.int n=>vs.getD n.toNat IV.non|_=>IV.non)=vs'
   have x4:Ex h3 (h3++IX.lst vs'::g4):=.cons _ _ _
   have w4:AllH (h3++IX.lst vs'::g4) vs' (pk rs os):=by
    refine⟨by rw[<- hvs];simp[pk],λ i v r a b=>?_⟩
    have hi:i<os.length:=by
     have:=(Zo.mp b).1
     simpa [pk] using this
    have ho:os[i]<rs.length:=ZaP.mp (p.mem_iff.mp (ZI hi))
    have ho':os[i]<vs.length:=by omega
    have er:r=rs[os[i]]:=by
     simp only[pk,Z7,Zb hi,ZbA,ZaB,Zw,Zb ho,Zcn] at b
     exact b.symm
    have ev:v=vs[os[i]]:=by
     rw[<- hvs] at a
     simp only[Z7,Zb hi,ZbA,ZaB,ZbC,Zw,Zb ho',Zcn] at a
     exact a.symm
    obtain⟨j,e1,e2⟩:=w.at_ os[i] v r (by rw[ev,Zb ho']) (by rw[er,Zb ho])
    exact⟨j,e1,x4.get (x13.get e2)⟩
   refine WR.mono (Jup (k:=k) Jx w4 (x4.get (x13.get d.t)) (d.q.perm (Jkw p).symm) (((Jkw p).map _).nodup_iff.mpr d.nd)) ?_
   rintro _ h5 ⟨rfl,x5,d5⟩
   exact⟨rfl,(x13.trans x4).trans x5,d5⟩
end
def neV (a:Nat)(v:IV):Bool:=match v with
 | .int n=>decide (n≠(a:Int))
 | _=>Zh
theorem Jz5 (a:Nat):∀l:List Nat,((ni l).filter (neV a)).map (λ v=>v)=ni (l.filter λ b=>decide (b≠a))
 | []=>rfl
 | b::l=>by
  have ih:=Jz5 a l
  by_cases q:b=a
  ·have e1:neV a (.int (b:Int))=Zh:=by unfold neV;simp[q]
   have e2:decide (b≠a)=Zh:=by simp[q]
   rw[ZdX (p:=λ b=>decide (b≠a)) (a:=b) (by rw[e2];decide)]
   show((IV.int (b:Int)::ni l).filter (neV a)).map (λ v=>v)=_
   rw[ZdX (by rw[e1];decide)]
   exact ih
  ·have e1:neV a (.int (b:Int))=Zd:=by unfold neV;exact decide_eq_true (by omega)
   have e2:decide (b≠a)=Zd:=by simp[q]
   rw[ZdY (p:=λ b=>decide (b≠a)) (a:=b) e2]
   show((IV.int (b:Int)::ni l).filter (neV a)).map (λ v=>v)=_
   rw[ZdY e1,Zu,ih]
   rfl
theorem Joc {k:Nat}{h:IH}{D n:Nat}{A B rs:List RH}{r:RH}{top N:Int}(d:D71 h D rs top N)(e:rs=A++r::B)(hn:n=A.length) :
  WR (X3 (k+6) [.ref D,.int (n:Int)] h) λ v h'=>((v=.non/\¬Fit A r B)∨((∃x,v=.int x)/\Fit A r B))/\Ex h h':=by
 subst e hn
 obtain⟨vs,y⟩:=d.y
 have:=Jrw (k:=k) (a:=A.length) y d.t d.q (by simp)
 simpa using this
theorem Js3 {left weak:List Nat}{a n:Nat}(p:(left++weak).Perm (Z8 n))(nl:left.Nodup)(ha:a∈left):((left.filter λ b=>decide (b≠a))++a::weak).Perm (Z8 n):=by
 refine ZdV.trans (.trans ?_ p)
 rw[<- ZS]
 refine List.Perm.append_right weak ((Zb6 (Zbd.mpr ⟨λ z=>?_,nl.filter _⟩) nl).mpr λ x=>?_)
 ·exact of_decide_eq_true (Zak.mp z).2 rfl
 ·simp only[ZH,Zak,decide_eq_true_eq]
  constructor
  ·rintro(rfl|z)
   ·exact ha
   ·exact z.1
  ·intro z
   by_cases q:x=a
   ·exact .inl q
   ·exact .inr ⟨z,q⟩
section
variable {k:Nat}{h:IH}{D L W a:Nat}{rs:List RH}{top N:Int}{left weak:List Nat}
theorem Jz1 (d:D71 h D rs top N)(hL:h[L]?=Za (.lst (ni left)))(hW:h[W]?=Za (.lst (ni weak)))(p:(left++weak).Perm (Z8 rs.length))(nl:left.Nodup)(ha:a∈left) :
  WR (Jam (k+7) [.ref D,.ref L,.ref W,.int (a:Int)] h) λ v h'=>(∃b,v=.bl b/\(b=Zd↔Fit (pk rs (left.filter λ b=>decide (b≠a))) (rs.getD a rd) (pk rs weak)))/\Ex h h':=by
 have hb:=JC
 have l12:=d.q.l
 have ll:left.length+weak.length=rs.length:=by rw[<- ZD,p.length_eq,Zbp]
 have lf:=ZcV (λ b=>decide (b≠a)) left
 have ln:(ni left).length=left.length:=by simp
 rw[Jex]
 simp! [Ja2]
 refine WR.mono (Jlb (h:=h) (xs:=ni left) (chk:=λ h'=>h'[L]?=Za (.lst (ni left))) (p:=neV a) (f:=λ v=>v) ?_ (by omega) (λ h2 q=>q _ _ hL) ?_ ?_) ?_
 ·simp! [JP,hL]
 ·intro v hv h2 q
  obtain⟨n,hn,rfl⟩:=Zz.mp hv
  simp only[Zu,Zaz,ZY,Zag,ZaW]
  simp! [Jar,neV]
  exact⟨by simp,.refl _⟩
 ·intro v hv _ h2 q
  simp! [Jaq]
  exact .refl _
 ·rintro _ _ ⟨rfl,g,rfl⟩
  rw[Jz5]
  generalize hst:left.filter (λ b=>decide (b≠a))=st at lf ⊢
  have x1:Ex h (h++IX.lst (ni st)::g):=.cons _ _ _
  have gS:(h++IX.lst (ni st)::g)[h.length]?=Za (.lst (ni st)):=Jx
  generalize h++IX.lst (ni st)::g=h1 at x1 gS
  have d1:=d.kp x1.kp
  obtain⟨vs,y1⟩:=d1.y
  have lns:(ni st).length=st.length:=by simp
  have lnw:(ni weak).length=weak.length:=by simp
  simp! [Ja3]
  rw[Q3 (i:=D) (h1:=h1) rfl y1.d (by kernel_rfl) (Jev _)]
  simp! [VR,Jk9]
  refine⟨by simp;omega,ni st,grow gS,[.int (a:Int)],Jq,by simp;omega,_,Jq,ni weak,grow (grow (x1.get hW)),by simp;omega,?_⟩
  have x2:Ex h1 (h1++[IX.lst [IV.int (a:Int)]]++[IX.lst (ni st++[IV.int (a:Int)])]++[IX.lst (ni st++[IV.int (a:Int)]++ni weak)]):=((Ex.one _ _).trans (.one _ _)).trans (.one _ _)
  have eo:ni st++[IV.int (a:Int)]++ni weak=ni (st++a::weak):=by simp
  have gO:(h1++[IX.lst [IV.int (a:Int)]]++[IX.lst (ni st++[IV.int (a:Int)])]++[IX.lst (ni st++[IV.int (a:Int)]++ni weak)])[(h1++[IX.lst [IV.int (a:Int)]]++[IX.lst (ni st++[IV.int (a:Int)])]).length]?=Za (.lst (ni (st++a::weak))):=by rw[Jq,eo]
  generalize (h1++[IX.lst [IV.int (a:Int)]]++[IX.lst (ni st++[IV.int (a:Int)])]).length=O at gO ⊢
  generalize h1++[IX.lst [IV.int (a:Int)]]++[IX.lst (ni st++[IV.int (a:Int)])]++[IX.lst (ni st++[IV.int (a:Int)]++ni weak)]=h2 at x2 gO ⊢
  refine WR.mono (Jjz (k:=k+2) (d1.kp x2.kp) gO (hst▸Js3 p nl ha)) ?_
  rintro _ h3 ⟨D',rfl,x3,d3⟩
  have gS3:=x3.get (x2.get gS)
  rw[Yl]
  refine⟨_,gS3,?_⟩
  rw[lns]
  refine WR.mono (Joc (k:=k) (A:=pk rs st) (r:=rs.getD a rd) (B:=pk rs weak) d3 (by simp[pk]) (by simp[pk])) ?_
  rintro v h4 ⟨an,x4⟩
  have x14:=((x1.trans x2).trans x3).trans x4
  simp only[Jt3]
  rcases an with⟨rfl,no⟩|⟨⟨x,rfl⟩,yes⟩
  ·exact⟨Zd,rfl,⟨_,rfl,λ z=>absurd z (by decide),λ z=>absurd z no⟩,x14⟩
  ·exact⟨Zh,rfl,⟨_,rfl,λ _=>yes,λ _=>rfl⟩,x14⟩
end
theorem Jt4 {i:Nat}{J:ItI->IH->Prop}{h:IH}:WR (Vj [.ref i] h) J=∃xs,h[i]?=Za (.lst xs)/\J ⟨xs.reverse,λ h'=>h'[i]?=Za (.lst xs)⟩ h:=by
 unfold Vj
 dsimp only
 cases e:h[i]? with
 | none=>simp[WR]
 | some o=>cases o<;>simp[WR]
section
variable {k:Nat}{h:IH}{D L W a:Nat}{rs:List RH}{top N:Int}{left weak:List Nat}
theorem Jxr (d:D71 h D rs top N)(hL:h[L]?=Za (.lst (ni left)))(hW:h[W]?=Za (.lst (ni weak)))(p:(left++weak).Perm (Z8 rs.length))(nl:left.Nodup) :
  WR (Jbc (k+8) [.ref D,.ref L,.ref W] h) λ v h'=>((v=.non/\∀a∈left,¬Fit (pk rs (left.filter λ b=>decide (b≠a))) (rs.getD a rd) (pk rs weak)) ∨
   ∃a∈left,v=.int (a:Int)/\Fit (pk rs (left.filter λ b=>decide (b≠a))) (rs.getD a rd) (pk rs weak))/\Ex h h':=by
 have lr:((ni left).reverse).length=left.length:=by simp
 have ge:∀i (hi:i<(ni left).reverse.length),∃a∈left,left.reverse[i]?=Za a/\(ni left).reverse[i]=.int (a:Int):=λ i hi=>by
  have hi':i<left.reverse.length:=by rw[Zbu];omega
  refine⟨left.reverse[i],List.mem_reverse.mp (ZI hi'),Zb hi',?_⟩
  have:(ni left).reverse=(left.reverse.map λ n:Nat=>(n:Int)).map IV.int:=by rw[List.map_reverse,List.map_reverse]
  simp only[this,Za8]
 rw[Jgd]
 simp! [Jb8,Jt4]
 refine⟨_,hL,?_⟩
 refine Q5 (λ i σ h'=>Ex h h'/\(∃c,σ=[Za (.ref D),Za (.ref L),Za (.ref W),c])/\∀j,j<i->∀a,left.reverse[j]?=Za a->¬Fit (pk rs (left.filter λ b=>decide (b≠a))) (rs.getD a rd) (pk rs weak)) ?_ ?_ ?_ ⟨.refl _,⟨Zc,rfl⟩,λ j hj=>absurd hj (Nat.not_lt_zero _)⟩
 ·rintro i _ h1 ⟨x1,_⟩
  exact x1.get hL
 ·rintro i hi _ h1 ⟨x1,⟨c,rfl⟩,no⟩
  obtain⟨a,ha,ea,ei⟩:=ge i hi
  rw[ei]
  simp! [Jbh]
  refine WR.mono (Jz1 (k:=k) (d.kp x1.kp) (x1.get hL) (x1.get hW) p nl ha) ?_
  rintro _ h2 ⟨⟨b,rfl,hb⟩,x2⟩
  simp! [true_and]
  refine⟨λ q=>?_,λ q=>?_⟩
  ·exact⟨.inr ⟨a,ha,rfl,hb.mp q⟩,x1.trans x2⟩
  ·refine⟨x1.trans x2,⟨_,rfl⟩,λ j hj a' ea'=>?_⟩
   rcases Nat.lt_or_ge j i with lt|ge
   ·exact no j lt a' ea'
   ·have:j=i:=by omega
    subst this
    rw[ea] at ea'
    cases ea'
    intro f
    rw[hb.mpr f] at q
    cases q
 ·rintro _ h1 ⟨x1,⟨c,rfl⟩,no⟩
  simp! [Jb9]
  refine⟨.inl λ a ha=>?_,x1⟩
  obtain⟨j,hj,e⟩:=List.getElem_of_mem (List.mem_reverse.mpr ha)
  exact no j (by rw[lr];rw[Zbu] at hj;exact hj) a (by rw[Zb hj,e])
end
theorem Jrs {t:T1}{b:S1}{σ:ISt}{h:IH}{N:ISt->IH->Prop}{R:IV->IH->Prop}{Y:Nat->ISt->IH->Prop}(I:Nat->ISt->IH->Prop)
  (turn:∀m σ h,I m σ h->WR (t σ h) λ c h1=>(c=Zd->∃m',m=m'+1/\WSE (b σ h1) (I m') R λ n σ2 h2=>(∃c fs,h2[n]?=Za (.exc c fs))/\Y n σ2 h2)/\(c=Zh->N σ h1)){m:Nat}(hm:m<1000000)(start:I m σ h):WSE (VJ t b σ h) N R Y:=by
 have key:∀(n m:Nat)(σ:ISt)(h:IH),m<n->I m σ h->WSE (Q2 t b n σ h) N R Y:=by
  intro n
  induction n with
  | zero=>intro m σ h hn _;omega
  | succ n ih =>
   intro m σ h hn hI
   obtain⟨c,h1,e,q1,q2⟩:=(turn m σ h hI).eq
   unfold Q2
   rw[e]
   cases c with
   | false=>exact q2 rfl
   | true =>
    obtain⟨m',rfl,w⟩:=q1 rfl
    simp only[if_true]
    cases eb:b σ h1 with
    | next σ2 h2=>rw[eb] at w;exact ih m' σ2 h2 (by omega) w
    | ret v h2=>rw[eb] at w;exact w
    | exc j σ2 h2 =>
     rw[eb] at w
     obtain⟨⟨c,fs,hj⟩,y⟩:=w
     dsimp only
     rw[hj]
     exact y
    | _=>rw[eb] at w;exact w.elim
 have et:VO=1000000:=by unfold VO;rfl
 rw[Jgm]
 exact key _ m σ h (by rw[et];exact hm) start
section
variable {h:IH}
theorem Jn5 {N:ISt->IH->Prop}{R:IV->IH->Prop}{Y:Nat->ISt->IH->Prop}{σ:ISt}{rz:Str->Bool}{m:E1}{n:Nat}{c:Str}{fs:List (Str×IV)}{h1:IH}(e:m σ h=.ok (.ref n) h1)(hn:h1[n]?=Za (.exc c fs))(r:rz c=Zd)(y:Y n σ h1):WSE (Yb rz m σ h) N R Y:=by
 unfold Yb
 rw[Jm0,e,J2z]
 dsimp only
 rw[hn]
 dsimp only
 rw[if_pos r]
 exact y
theorem Js6 {k L n:Nat}{xs:List IV}(e:h[n]?=Za (.exc "NoRanks" []))(hL:h[L]?=Za (.lst xs)) :
  X1 (k+1) [.ref n,.ref L] h=.ok .non ((h++[IX.lst xs]).set n (.exc "NoRanks" [("stuck",.ref h.length)])):=by
 have xo:((pg k).xo "NoRanks").isSome=Zd:=by kernel_rfl
 have xf:xfOf T "stuck" "NoRanks"=Zd:=by kernel_rfl
 have e1:XL (λ c=>((pg k).xo c).isSome) (Jb (Ja 0) (Jb (eC (.str "no order of the works keeps the duty")) Jd)) [Za (.ref n),Za (.ref L)] h=.ok .non h:=by
  unfold XL
  show(match h[n]? with|some (.exc c _)=>if ((pg k).xo c).isSome then Res.ok IV.non h else .stuck|_=>.stuck)=_
  rw[e]
  show(if ((pg k).xo "NoRanks").isSome then Res.ok IV.non h else .stuck)=_
  rw[if_pos xo]
 have el:eCB (on1 Qq) (Jb (Ja 1) Jd) [Za (.ref n),Za (.ref L)] h=.ok (.ref h.length) (h++[.lst xs]):=by
  refine Jz ?_
  simp! [true_and]
  rw[Jmp]
  exact⟨xs,hL,rfl,rfl⟩
 have e2:Ya (xfOf T "stuck") "stuck" (Ja 0) (eCB (on1 Qq) (Jb (Ja 1) Jd)) [Za (.ref n),Za (.ref L)] h=.next [Za (.ref n),Za (.ref L)] ((h++[IX.lst xs]).set n (.exc "NoRanks" [("stuck",.ref h.length)])):=by
  unfold Ya
  rw[el]
  show(match (h++[IX.lst xs])[n]? with|some (.exc c [])=>if xfOf T "stuck" c&&Zd then SRes.next _ ((h++[IX.lst xs]).set n (.exc c [("stuck",.ref h.length)])) else .stuck|_=>.stuck)=_
  rw[grow e]
  show(if xfOf T "stuck" "NoRanks"&&Zd then _ else SRes.stuck)=_
  rw[if_pos (by rw[xf];rfl)]
 refine Jz ?_
 rw[Jgb]
 simp! [Jb2,e1,Jb3,e2]
end
theorem Jv3 {left:List Nat}{a:Nat}(ha:a∈left):∃j,(left.map λ n:Nat=>(n:Int)).findIdx? (· ==(a:Int))=Za j/\∃hj:j<left.length,left[j]=a:=by
 have:((left.map λ n:Nat=>(n:Int)).findIdx? (· ==(a:Int))).isSome=Zd:=by
  rw[List.findIdx?_isSome,ZbR]
  exact⟨(a:Int),Zz.mpr ⟨a,ha,rfl⟩,by simp⟩
 obtain⟨j,hj⟩:=Za6.mp this
 refine⟨j,hj,?_⟩
 obtain⟨h1,h2,_⟩:=Za5.mp hj
 rw[Zp] at h1
 refine⟨h1,?_⟩
 have:=beq_iff_eq.mp h2
 rw[Za8] at this
 omega
theorem Jo3 {α β:Type}(f:α->β):∀(l:List α)(j:Nat),(l.map f).eraseIdx j=(l.eraseIdx j).map f
 | [],_=>rfl
 | _::_,0=>rfl
 | a::l,j+1=>congrArg (f a:: ·) (Jo3 f l j)
theorem Jhd:∀(l:List Nat)(j:Nat)(hj:j<l.length),(l[j]::l.eraseIdx j).Perm l
 | _::_,0,_=>.refl _
 | a::l,j+1,hj=>(List.Perm.swap a (l[j]'(Zee hj)) (l.eraseIdx j)).trans ((Jhd l j (Zee hj)).cons a)
theorem Jjq {left:List Nat}{a j:Nat}(nl:left.Nodup)(hj:j<left.length)(e:left[j]=a):(left.filter λ b=>decide (b≠a)).Perm (left.eraseIdx j)/\(a::left.eraseIdx j).Perm left:=by
 have p1:(a::left.eraseIdx j).Perm left:=e▸Jhd left j hj
 have ha:a∈left:=e▸ZI hj
 refine⟨List.Perm.cons_inv (a:=a) (.trans ?_ p1.symm),p1⟩
 refine(Zb6 (Zbd.mpr ⟨λ z=>?_,nl.filter _⟩) nl).mpr λ x=>?_
 ·exact of_decide_eq_true (Zak.mp z).2 rfl
 ·simp only[ZH,Zak,decide_eq_true_eq]
  constructor
  ·rintro(rfl|z)
   ·exact ha
   ·exact z.1
  ·intro z
   by_cases q:x=a
   ·exact .inl q
   ·exact .inr ⟨z,q⟩
theorem Jsb {rs:List RH}{left weak:List Nat}{a j:Nat}(nl:left.Nodup)(hj:j<left.length)(e:left[j]=a)(f:Fit (pk rs (left.filter λ b=>decide (b≠a))) (rs.getD a rd) (pk rs weak))(all:JH (pk rs left) (pk rs weak)) :
  JH (pk rs (left.eraseIdx j)) (pk rs (a::weak)):=by
 obtain⟨p1,p2⟩:=Jjq nl hj e
 refine⟨f.perm (p1.map _) (.refl _),all.above ?_⟩
 have:(pk rs (a::left.eraseIdx j)).Perm (pk rs left):=p2.map _
 refine this.symm.trans ?_
 exact(List.perm_append_singleton (rs.getD a rd) (pk rs (left.eraseIdx j))).symm
section
variable {k:Nat}{h:IH}{D:Nat}{rs:List RH}{top N:Int}
theorem Jqg (d:D71 h D rs top N):WE (Jhq (k+9) [.ref D] h)
  (λ v h'=>(∃O os,v=.ref O/\h.length<=O/\h'[O]?=Za (.lst (ni os))/\os.Perm (Z8 rs.length)/\JH [] (pk rs os))/\Ex h h')
  (λ n h'=>(∃fs,h'[n]?=Za (.exc "NoRanks" fs))/\(∀os:List Nat,os.Perm (Z8 rs.length)->¬JH [] (pk rs os))/\Ex h h'):=by
 have hb:=JC
 have l12:=d.q.l
 obtain⟨vs,y⟩:=d.y
 have wl:=y.w.len
 rw[Jpd]
 refine J1d ?_
 rw[Jg8,VV]
 refine WSE.of ?_
 simp! [Jyc]
 rw[Q3 (i:=D) (h1:=h) rfl y.d (by kernel_rfl) (Jba _)]
 simp! [Jeh y.d,wl,Zdk]
 refine⟨by omega,?_⟩
 rw[Xl]
 rw[Jg9,VV]
 refine WSE.of ?_
 simp! [VR]
 refine⟨by simp,?_⟩
 rw[Jha,VV]
 have wf:∀a,a<rs.length->WorkF (rs.getD a rd):=λ a ha=>by
  rw[Zw,Zb ha]
  exact d.q.w _ (ZI ha)
 refine Jrs (λ m σ h'=>∃left weak W g c,m=left.length/\σ=[Za (.ref D),Za (.ref h.length),Za (.ref W),c]/\h'=h++IX.lst (ni left)::g/\h'[W]?=Za (.lst (ni weak))/\h.length<W/\(left++weak).Perm (Z8 rs.length)/\left.Nodup/\JH (pk rs left) (pk rs weak)) ?_ (m:=rs.length) (by omega)
  ⟨Z8 rs.length,[],(h++[IX.lst (ni (Z8 rs.length))]).length,[.lst []],Zc,by simp,rfl,by simp,Jq,by simp,by simp,List.nodup_range,trivial⟩
 rintro m _ _ ⟨left,weak,W,g,c,rfl,rfl,rfl,hW,lW,p,nl,all⟩
 have x0:Ex h (h++IX.lst (ni left)::g):=.cons _ _ _
 have gL:(h++IX.lst (ni left)::g)[h.length]?=Za (.lst (ni left)):=Jx
 have ln:(ni left).length=left.length:=by simp
 have lnw:(ni weak).length=weak.length:=by simp
 have ll:left.length+weak.length=rs.length:=by rw[<- ZD,p.length_eq,Zbp]
 simp! [Yl]
 refine⟨_,gL,?_⟩
 simp! [ln,decide_eq_true_eq,decide_eq_false_iff_not]
 refine⟨λ q=>⟨left.length-1,by omega,?_⟩,λ q=>?_⟩
 ·rw[Jgj,VV,Jlj,Jq5]
  refine WE.of ?_
  simp! [true_and]
  refine WE.of (WR.mono (Jxr (k:=k) (d.kp x0.kp) gL hW p nl) ?_)
  rintro v h2 ⟨an,x2⟩
  rcases an with⟨rfl,no⟩|⟨a,ha,rfl,ft⟩
  ·rw[VV,Jvh]
   refine WE.of ?_
   simp! [Xw,isI]
   have gL2:=x2.get gL
   have ei:X1 (k+8) [.ref h2.length,.ref h.length] (h2++[.exc "NoRanks" []])=.ok .non (h2++[.exc "NoRanks" [("stuck",.ref (h2.length+1))],.lst (ni left)]):=by
    rw[Js6 (k:=k+7) Jq (grow gL2)]
    simp
   have x3:Ex h2 (h2++[IX.exc "NoRanks" [("stuck",.ref (h2.length+1))],.lst (ni left)]):=.cons _ _ _
   have gE:(h2++[IX.exc "NoRanks" [("stuck",.ref (h2.length+1))],.lst (ni left)])[h2.length]?=Za (.exc "NoRanks" [("stuck",.ref (h2.length+1))]):=Jx
   refine Jn5 (n:=h2.length) (c:="NoRanks") (h1:=h2++[IX.exc "NoRanks" [("stuck",.ref (h2.length+1))],.lst (ni left)]) ?_ gE (by kernel_rfl) ⟨⟨_,_,gE⟩,⟨_,_,gE⟩,⟨_,gE⟩,λ os ho af=>?_,(x0.trans x2).trans x3⟩
   ·show((X1 (k+8) [.ref h2.length,.ref h.length] (h2++[.exc "NoRanks" []])).bind _)=_
    rw[ei]
    rfl
   ·obtain⟨a,ha,ft⟩:=Jqy (f:=λ a=>rs.getD a rd) (o:=os) (left:=left) (below:=weak) (λ a ha=>wf a (ZaP.mp (ho.mem_iff.mp ha))) (ho.trans p.symm) (ho.nodup_iff.mpr List.nodup_range) (λ z=>by rw[z] at q;exact absurd q (by decide)) af
    exact no a ha ft
  ·obtain⟨j,fj,hj,ej⟩:=Jv3 ha
   rw[VV,Jvh]
   refine WE.of ?_
   simp! [Xw,isI]
   have gL2:=x2.get gL
   rw[Jyo,VV,Jub]
   refine WE.of ?_
   rw[Yk (i:=h.length) (h1:=h2) rfl gL2 Joo]
   simp! [true_and]
   refine xrem gL2 fj ?_
   have en:((left.map λ n:Nat=>(n:Int)).map IV.int).eraseIdx j=ni (left.eraseIdx j):=by rw[Jo3,Jo3]
   rw[en]
   obtain⟨g2,rfl⟩:=x2
   rw[ZF,ZS,V1]
   have hW2:(h++IX.lst (ni (left.eraseIdx j))::(g++g2))[W]?=Za (.lst (ni weak)):=by
    obtain⟨w,rfl⟩:∃w,W=h.length+(w+1):=⟨W-h.length-1,by omega⟩
    rw[Z4 (by omega),ZdS,ZY] at hW ⊢
    rw[ZC (Zo.mp hW).1]
    exact hW
   rw[Jlj]
   refine WE.of ?_
   simp! [VR,Jk9]
   refine⟨by simp;omega,[.int (a:Int)],Jq,ni weak,grow hW2,by simp;omega,?_⟩
   obtain⟨p1,p2⟩:=Jjq nl hj ej
   refine⟨left.eraseIdx j,a::weak,_,g++g2++[.lst [.int (a:Int)]]++[.lst ([.int (a:Int)]++ni weak)],_,by rw[List.length_eraseIdx_of_lt hj],rfl,by simp,Jq,by simp only[ZD,ZB,Zau];omega,?_,nl.eraseIdx j,Jsb nl hj ej ft all⟩
   refine .trans ?_ p
   refine ZdV.trans ?_
   rw[<- ZS]
   exact p2.append_right weak
 ·have e0:left=[]:=ZdW.mp (by omega)
  subst e0
  refine WSE.of ?_
  simp! [Jhb]
  exact⟨⟨W,weak,rfl,by omega,hW,p,all⟩,x0⟩
end
theorem Jrx (hss:List (List Hd))(n:Nat)(hn:n<hss.length)(x:Str):(hss.take (n+1)).any (has x)=((hss.take n).any (has x)||has x hss[n]):=by
 rw[ZV hn,List.any_append]
 simp
theorem Jys (hss:List (List Hd))(a:Nat)(b:Hd):(hss.take (a+1)).any (has b.1)=stB hss a b:=by
 rw[<- J0y]
 unfold sgs has
 rw[List.any_flatten,ZeL]
 congr 1
 funext hs
 simp[Function.comp_def,ZeL]
def mx (z t:Int):Int:=if t>z then t else z
theorem J2a (z t:Int):mx (mx z t) t=mx z t:=by
 unfold mx
 split<;>(first|omega|(split<;>omega))
theorem Jwa (x:Str)(hs:List Hd):((hs.map (·.1)).any λ a=>decide (a=x))=has x hs:=by
 unfold has
 rw[ZeL]
 rfl
section
variable {k:Nat}{h:IH}
theorem Jwb {S a:Nat}{ys:List IV}{rs:List RH}(hS:h[S]?=Za (.lst ys))(R:RowsH h ys rs)(hl:rs.length<=12)(six:∀r∈rs,r.2.length<=6/\∀x∈r.2,IsNm x.1)(ha:a<rs.length)
  (pos:∀r∈rs,∀b∈r.2,0<=tn b) :
  WR (X5 (k+1) [.ref S,.int (a:Int)] h) λ v h'=>(∃z,v=.int z/\UpIs (fds (stB (rs.map (·.2)) a) (a+1) ((rs.map (·.2)).drop (a+1))) z)/\Ex h h':=by
 have hb:=JC
 have rl:=R.len
 generalize hss':rs.map (·.2)=hss
 have lh:hss.length=rs.length:=by rw[<- hss'];simp
 have six':∀hs∈hss,hs.length<=6:=λ hs q=>by
  rw[<- hss'] at q
  obtain⟨r,hr,rfl⟩:=Zz.mp q
  exact(six r hr).1
 have nms':∀hs∈hss,∀b∈hs,IsNm b.1:=λ hs q b hb'=>by
  rw[<- hss'] at q
  obtain⟨r,hr,rfl⟩:=Zz.mp q
  exact(six r hr).2 b hb'
 have get:∀(n:Nat)(hn:n<rs.length),∃q,ys[n]'(by omega)=t5h rs[n] q/\h[q]?=Za (.lst ((hss[n]'(by omega)).map tupH)):=λ n hn=>by
  obtain⟨q,e,g⟩:=R.at_ n _ _ (Zb (show n<ys.length by omega)) (Zb hn)
  refine⟨q,e,?_⟩
  subst hss'
  rw[Za8]
  exact g
 rw[Jgw]
 have c1:(Za ((a:Int)+1))=Za ((a+1:Nat):Int):=by push_cast;rfl
 simp! [Jcj,Jck,VU,hS,JP,Jq]
 rw[c1,Jhz]
 have x1:Ex h (h++[IX.lst (ys.drop (a+1))]):=.one _ _
 have gT:(h++[IX.lst (ys.drop (a+1))])[h.length]?=Za (.lst (ys.drop (a+1))):=Jq
 generalize h.length=T at gT
 generalize h++[IX.lst (ys.drop (a+1))]=h1 at x1 gT
 refine Q5 (λ n σ h'=>Ex h1 h'/\∃z c d e f g,σ=[Za (.ref S),Za (.int (a:Int)),Za (.int z),c,d,e,f,g]/\UpW (fds (stB hss a) (a+1) ((hss.drop (a+1)).take n)) z) (λ _ _ _ q=>q.1.get gT) ?_ ?_ ⟨.refl _,0,Zc,Zc,Zc,Zc,Zc,rfl,⟨by omega,.inl rfl,λ p hp=>by cases hp⟩⟩
 ·rintro n hn _ h2 ⟨x2,z,c,d,e,f,g,rfl,up⟩
  rw[Zbf] at hn
  have hnr:a+1+n<rs.length:=by omega
  rw[Zd8]
  obtain⟨q,ey,gq⟩:=get (a+1+n) hnr
  rw[ey]
  have hm:n<(hss.drop (a+1)).length:=by rw[Zbf];omega
  rw[ZV hm,Jh2,Zd8,ZN,Zc2 (by omega)]
  have hmm:a+1+n<hss.length:=by omega
  have nmb:=nms' _ (ZI hmm)
  generalize fds (stB hss a) (a+1) ((hss.drop (a+1)).take n)=F at up
  generalize hss[a+1+n]=hs at gq nmb
  have gq2:=x2.get (x1.get gq)
  generalize rs[a+1+n]=r
  have a4:atI [IV.int r.1.gap,IV.int r.1.len,IV.int r.1.due,IV.int r.1.late,IV.ref q] 4=Za (.ref q):=V9
  simp! [Jcc,JP,gq2]
  refine Q5 (λ m σ h'=>Ex h2 h'/\∃z d e f g,σ=[Za (.ref S),Za (.int (a:Int)),Za (.int z),Za (t5h r q),d,e,f,g]/\UpW (F++((hs.take m).filter (stB hss a)).map λ b=>(a+1+n,b)) z) (λ _ _ _ z=>z.1.get gq2) ?_ ?_ ⟨.refl _,z,d,e,f,g,rfl,by simpa using up⟩
  ·rintro m hm _ h3 ⟨x3,z3,d3,e3,f3,g3,rfl,up3⟩
   rw[Zp] at hm
   rw[Za8,ZV hm]
   have nmx:=nmb _ (ZI hm)
   generalize hs[m]=b at nmx
   have x13:=(x1.trans x2).trans x3
   simp! [tupH,Jrp,Jym,Jyn,ZB,Zau,Jcb,VU,x13.get hS,JP,Jq]
   rw[c1,Jfg]
   have x4:Ex h3 (h3++[IX.lst (ys.take (a+1))]):=.one _ _
   have gT4:(h3++[IX.lst (ys.take (a+1))])[h3.length]?=Za (.lst (ys.take (a+1))):=Jq
   generalize h3.length=T4 at gT4
   generalize h3++[IX.lst (ys.take (a+1))]=h4 at x4 gT4
   have x14:=x13.trans x4
   refine Q5 (λ j σ h'=>Ex h4 h'/\∃g,σ=[Za (.ref S),Za (.int (a:Int)),Za (.int (if ((hss.take j).any (has b.1))=Zd then mx z3 (tn b) else z3)),Za (t5h r q),Za (.str b.1),Za (.int b.2.1),Za (.int b.2.2),g]) (λ _ _ _ z=>z.1.get gT4) ?_ ?_ ⟨.refl _,g3,rfl⟩
   ·rintro j hj _ h5 ⟨x5,g5,rfl⟩
    rw[ZN] at hj
    have hjr:j<rs.length:=by omega
    rw[Zcd]
    obtain⟨q5,ey5,gq5⟩:=get j hjr
    have hjh:j<hss.length:=by omega
    rw[ey5,Jrx hss j hjh]
    have l6:=six' _ (ZI hjh)
    have nm5:=nms' _ (ZI hjh)
    generalize hss[j]=hs5 at gq5 l6 nm5
    generalize rs[j]=r5
    have gq6:=x5.get (x14.get gq5)
    have b4:atI [IV.int r5.1.gap,IV.int r5.1.len,IV.int r5.1.due,IV.int r5.1.late,IV.ref q5] 4=Za (.ref q5):=V9
    simp! [Jca]
    refine WR.mono (Qm (h:=h5) (xs:=hs5.map tupH) (chk:=λ h'=>h'[q5]?=Za (.lst (hs5.map tupH))) (f:=thV) ?_ (by rw[Zp];omega) (λ h6 kk=>kk _ _ gq6) ?_) ?_
    ·simp! [JP,gq6]
    ·intro v hv h6 kk
     obtain⟨x,_,rfl⟩:=Zz.mp hv
     simp! [Jbf,tupH,thV]
     exact .refl _
    ·rintro _ _ ⟨rfl,g6,rfl⟩
     rw[Jva]
     have x6:Ex h4 (h5++IX.lst ((hs5.map (·.1)).map IV.str)::g6):=x5.trans (.cons _ _ _)
     rw[Jwq Jx (λ x hx=>by
      obtain⟨y,hy,rfl⟩:=Zz.mp hx
      exact nm5 y hy) nmx,Jwa]
     simp! [Jye]
     refine⟨λ q'=>⟨x6,Za (t5h r5 q5),?_⟩,λ q'=>⟨x6,Za (t5h r5 q5),?_⟩⟩
     ·rw[q',ZeG,if_pos rfl]
      have e:mx (if ((hss.take j).any (has b.1))=Zd then mx z3 (tn b) else z3) (tn b)=mx z3 (tn b):=by
       split
       ·exact J2a z3 (tn b)
       ·rfl
      exact congrArg (λ v=>[Za (.ref S),Za (.int (a:Int)),Za (.int v),Za (t5h r q),Za (.str b.1),Za (.int b.2.1),Za (.int b.2.2),Za (t5h r5 q5)]) e
     ·rw[q',Bool.or_false]
   ·rintro _ h5 ⟨x5,g5,rfl⟩
    have lt:(ys.take (a+1)).length=a+1:=by rw[ZN];omega
    rw[lt,Jys]
    refine⟨(x3.trans x4).trans x5,_,_,_,_,_,rfl,?_⟩
    rw[List.filter_append,Zbr,<-ZF]
    cases hst:stB hss a b with
    | true =>
     simp only[ZbM,hst,if_true,Zeh,Zu,Zaz]
     exact up3.add (a+1+n,b)
    | false =>
     simp only[ZbM,hst,Zac,if_false,Zeh,Zaz,Za2]
     exact up3
  ·rintro _ h3 ⟨x3,z3,d3,e3,f3,g3,rfl,up3⟩
   rw[Zp,Zaq (Zr _)] at up3
   exact⟨x2.trans x3,_,_,_,_,_,_,rfl,up3⟩
 ·rintro _ h2 ⟨x2,z,c,d,e,f,g,rfl,up⟩
  rw[Zaq (by rw[Zbf,Zbf];omega)] at up
  simp! [Jcl]
  refine⟨up.is ?_,x1.trans x2⟩
  refine Jo8 _ _ _ λ hs q b hb'=>?_
  have q:=Zck q
  rw[<- hss'] at q
  obtain⟨r,hr,rfl⟩:=Zz.mp q
  exact pos r hr b hb'
theorem Jsv {S a:Nat}{ys:List IV}{rs:List RH}{top N m s:Int}{s2 s3 s4 s5 s6 s9:Option IV}(hS:h[S]?=Za (.lst ys))(R:RowsH h ys rs)(q:Dw rs top N)(ha:a<rs.length)(s1:1<=s){Nx:ISt->IH->Prop}{Rt:IV->IH->Prop}
  (go:∀c h',Ex h h'->Nx [Za (.ref S),Za (.int (a:Int)),s2,s3,s4,s5,s6,Za (.int (m+J4 (rs.take a) s)),Za (.int s),c] h') :
  WR (slI (.ref S) Zc (Za (a:Int)) h) λ v h1=>WR (VE v h1) λ J h1=>WS (JY J.chk (gNm 9) (Jan k) J.xs [Za (.ref S),Za (.int (a:Int)),s2,s3,s4,s5,s6,Za (.int m),Za (.int s),s9] h1) Nx Rt:=by
 have hb:=JC
 have rl:=R.len
 have l12:=q.l
 simp! [VU,hS,JP,Jq]
 rw[Jfg]
 have x2:Ex h (h++[IX.lst (ys.take a)]):=.one _ _
 have gT:(h++[IX.lst (ys.take a)])[h.length]?=Za (.lst (ys.take a)):=Jq
 generalize h.length=T at gT
 generalize h++[IX.lst (ys.take a)]=h2 at x2 gT
 refine Q5 (λ n σ h'=>h'=h2/\∃c,σ=[Za (.ref S),Za (.int (a:Int)),s2,s3,s4,s5,s6,Za (.int (m+J4 (rs.take n) s)),Za (.int s),c]) (λ _ _ _ q=>q.1▸gT) ?_ ?_ ⟨rfl,s9,by simp[J4]⟩
 ·rintro n hn _ _ ⟨rfl,c,rfl⟩
  rw[ZN] at hn
  have hnr:n<rs.length:=by omega
  rw[Zcd]
  obtain⟨q2,ey2,_⟩:=R.at_ n _ _ (Zb (show n<ys.length by omega)) (Zb hnr)
  have gg:=q.gaps _ (ZI hnr)
  have ah:J4 (rs.take (n+1)) s=J4 (rs.take n) s+cmn s (rs[n]).1*(rs[n]).1.len:=by
   unfold J4
   rw[ZV hnr,Zbr,List.sum_append]
   simp
  rw[ey2,ah]
  generalize rs[n]=r at gg
  generalize J4 (rs.take n) s=A0
  have mf:Qt ((s+r.1.late+r.1.gap-1)/r.1.gap) r.1.len:=.inr (.inl gg.2.2)
  have a0:atI [IV.int r.1.gap,IV.int r.1.len,IV.int r.1.due,IV.int r.1.late,IV.ref q2] 0=Za (.int r.1.gap):=rfl
  have a1:atI [IV.int r.1.gap,IV.int r.1.len,IV.int r.1.due,IV.int r.1.late,IV.ref q2] 1=Za (.int r.1.len):=rfl
  have a3:atI [IV.int r.1.gap,IV.int r.1.len,IV.int r.1.due,IV.int r.1.late,IV.ref q2] 3=Za (.int r.1.late):=rfl
  have ec:cmn s r.1=(s+r.1.late+r.1.gap-1)/r.1.gap:=by
   unfold cmn rup
   rw[if_pos s1]
  rw[ec]
  simp! [Jan,a0,a1,a3,mf,gg.1,gg.2.1]
  rw[Int.add_assoc]
  exact⟨_,rfl⟩
 ·rintro _ _ ⟨rfl,c,rfl⟩
  have lt:(ys.take a).length=a:=by rw[ZN];omega
  rw[lt]
  exact go c _ x2
theorem Dw.few {rs:List RH}{top N:Int}{a:Nat}(q:Dw rs top N)(ha:a<rs.length)(s:Int)(s1:1<=s)(s2:s+(rs[a]).1.late<=(rs[a]).1.due):cnt (rs.take a) s<=100:=by
 have b1:=(q.t _ (ZI ha)).1
 have b2:=(q.w _ (ZI ha)).t
 have:=Jmg N ((rs.take a).map λ r=>cmn s r.1) λ x hx=>by
  obtain⟨r,hr,rfl⟩:=Zz.mp hx
  have hr:=Zaj hr
  have c1:=(q.t r hr).2
  unfold cmn
  rw[if_pos s1]
  exact Jqk (q.w r hr).g (by omega)
 rw[Zp,ZN] at this
 have m:=Zbh (show((min a rs.length:Nat):Int)<=(rs.length:Int) by omega) q.n0
 have n:=q.n
 rw[ZeK] at n
 exact Zbx this (Zbx m (Zbx n (by decide)))
theorem Jxx {S a:Nat}{ys:List IV}{rs:List RH}{top N:Int}(hS:h[S]?=Za (.lst ys))(R:RowsH h ys rs)(q:Dw rs top N)(ha:a<rs.length) :
  WR (Jbj (k+2) [.ref S,.int (a:Int)] h) λ v h'=>(∃b,v=.bl b/\(b=Zd↔Fit (rs.take a) rs[a] (rs.drop (a+1))))/\Ex h h':=by
 have hb:=JC
 have rl:=R.len
 have e:=Zb ha
 obtain⟨q2,ey,_⟩:=R.at_ a _ _ (Zb (show a<ys.length by omega)) e
 have ea:atI ys (a:Int)=Za (t5h rs[a] q2):=Qd (by rw[Zb (by omega),ey])
 have q1:∀r∈rs.take a,0<r.1.gap/\0<=r.1.len:=λ r hr=>⟨(q.w r (Zaj hr)).g,by have:=(q.w r (Zaj hr)).l;omega⟩
 have q3:∀r∈rs.take a,0<r.1.gap/\0<=r.1.late/\0<=r.1.len:=λ r hr=>⟨(q1 r hr).1,(q.w r (Zaj hr)).t,(q1 r hr).2⟩
 have z0:0<=zU rs a:=((Jyq e q.w).mp (Zbm _)).1
 have L1:=(q.w _ (ZI ha)).l
 have held:∀{h1:IH},Ex h h1->WR (X5 (k+1) [.ref S,.int (a:Int)] h1) λ v h'=>v=.int (zU rs a)/\Ex h1 h':=λ {h1} x=>by
  refine WR.mono (Jwb (k:=k) (x.get hS) (R.kp x.kp) q.l (λ r hr=>⟨(q.o r hr).few,λ b hb=>((q.o r hr).each b hb).1⟩) ha (λ r hr b hb=>((q.w r hr).h b hb).1)) ?_
  rintro v h2 ⟨⟨z,rfl,up⟩,x2⟩
  exact⟨by rw[up.uniq (Jug rs a)],x2⟩
 rw[Jpa e q.w]
 have few:=q.few ha
 generalize zU rs a=z at *
 generalize rs[a]=r at *
 rw[Jgx]
 simp! [Jcm,VP,hS,ea,Jrp,Jym,Jyn,ZB,Zau,Jcn]
 refine WR.mono (held (.refl _)) ?_
 rintro _ h1 ⟨rfl,x1⟩
 simp! [Jco,Jcp]
 have lf:∀s,ldF z r.1.len (rs.take a) s=z+r.1.len+J4 (rs.take a) s:=λ _=>rfl
 refine Jmz (λ m σ h'=>Ex h h'/\∃(line least:Int)(c:Option IV),σ=[Za (.ref S),Za (.int (a:Int)),Za (.int r.1.gap),Za (.int r.1.len),Za (.int r.1.due),Za (.int r.1.late),Za (.ref q2),Za (.int least),Za (.int line),c]/\1<=least /\
  (∀s,1<=s->ldF z r.1.len (rs.take a) s<=s->least<=s)/\((line=0/\103<=m)∨(1<=line/\line+r.1.late<=r.1.due/\least=ldF z r.1.len (rs.take a) line/\(line<least->102<=(m:Int)+cnt (rs.take a) line)))) ?_ (m:=103) (by decide)
  ⟨x1,0,z+r.1.len,Zc,rfl,by omega,λ s s1 s2=>by have:=Jfe (s:=s) q3;have:=lf s;omega,.inl ⟨rfl,by decide⟩⟩
 rintro m _ h2 ⟨x2,line,least,c,rfl,l1,lb,st⟩
 simp! [decide_eq_true_eq,decide_eq_false_iff_not]
 refine⟨λ lt=>?_,λ ge=>?_⟩
 ·have m1:1<=m:=by
   rcases st with⟨_,p⟩|⟨p1,p2,p3,p4⟩
   ·omega
   ·have:=few line p1 p2
    have:=p4 lt
    omega
  refine⟨m-1,by omega,?_⟩
  simp! [Jcd,decide_eq_true_eq,decide_eq_false_iff_not]
  refine⟨λ gt=>?_,λ le=>?_⟩
  ·refine⟨⟨λ w=>w.elim,λ ⟨s,s1,s2,s3⟩=>?_⟩,x2⟩
   have:=lb s s1 s3
   omega
  ·refine WR.mono (held x2) ?_
   rintro _ h3 ⟨rfl,x3⟩
   simp! [true_and]
   have x23:=x2.trans x3
   refine Jsv (x23.get hS) (R.kp x23.kp) q ha l1 λ c' h4 x4=>?_
   refine⟨x23.trans x4,least,_,c',rfl,by have:=Jfe (s:=least) q3;omega,λ s s1 s2=>?_,.inr ⟨l1,by omega,rfl,λ lt2=>?_⟩⟩
   ·have:=Jcz l1 (lb s s1 s2) q1
    have:=lf s
    omega
   ·rcases st with⟨_,p⟩|⟨p1,p2,p3,p4⟩
    ·have:=Jov (s:=least) (rs:=rs.take a) λ r hr=>⟨(q3 r hr).1,(q3 r hr).2.1⟩
     omega
    ·have:=lf line
     have:=Jou (rs:=rs.take a) p1 (Int.le_of_lt lt) q1 (by omega)
     have:=p4 lt
     omega
 ·rcases st with⟨p,_⟩|⟨p1,p2,p3,p4⟩
  ·omega
  ·simp! [Jcq]
   exact⟨⟨λ _=>⟨line,p1,p2,by omega⟩,λ _=>trivial⟩,x2⟩
theorem at_x {xs:List Int}{n:Nat}(hn:n<xs.length):∃x,atI (xs.map IV.int) (n:Int)=Za (.int x) :=
 ⟨xs[n],Qd (by rw[Z7,Zb hn];rfl)⟩
theorem HsOk.snoc {len:Int}{hs:List Hd}{a:Hd}(o:HsOk len hs)(hl:hs.length<=5)(ha:HdOk len a)(t:∀b∈hs,Tog a b):HsOk len (hs++[a]):=by
 refine⟨by rw[ZD];simp;omega,λ x hx=>?_,λ m n hm hn=>?_⟩
 ·rcases ZW.mp hx with q|q
  ·exact o.each x q
  ·rw[ZE] at q
   rw[q];exact ha
 ·rw[ZD,ZcT] at hn
  by_cases q:n<hs.length
  ·rw[Zcy q,Zcy (by omega)]
   exact o.tog m n hm q
  ·have en:n=hs.length:=by omega
   subst en
   rw[List.getElem_append_right (Zr _),Zcy (by omega)]
   simp only[ZeJ,List.getElem_singleton]
   exact t _ (ZI _)
theorem Jyt (n:Int)(h0:0<=n)(h1:n<2):∃w,IsNm w/\atI [IV.str "ink",IV.str "oven"] n=Za (.str w):=by
 have:n=0∨n=1:=by omega
 rcases this with rfl|rfl
 ·exact⟨_,by unfold IsNm;decide +kernel,Vh⟩
 ·exact⟨_,by unfold IsNm;decide +kernel,Vt⟩
theorem Jsi {X:Nat}{xs:List Int}{len:Int}(hX:h[X]?=Za (.lst (xs.map .int)))(lx:5<=xs.length) :
  WR (Jdc (k+1) [.ref X,.int len] h) λ v h'=>∃q hs,v=.ref q/\h.length<=q/\h'[q]?=Za (.lst (hs.map tupH))/\HsOk len hs/\Ex h h':=by
 have hb:=JC
 obtain⟨a0,e0⟩:=at_x (xs:=xs) (n:=0) (by omega)
 obtain⟨a1,e1⟩:=at_x (xs:=xs) (n:=1) (by omega)
 obtain⟨a2,e2⟩:=at_x (xs:=xs) (n:=2) (by omega)
 obtain⟨a3,e3⟩:=at_x (xs:=xs) (n:=3) (by omega)
 obtain⟨a4,e4⟩:=at_x (xs:=xs) (n:=4) (by omega)
 have e0:atI (xs.map IV.int) 0=Za (.int a0):=e0
 have e1:atI (xs.map IV.int) 1=Za (.int a1):=e1
 have e2:atI (xs.map IV.int) 2=Za (.int a2):=e2
 have e3:atI (xs.map IV.int) 3=Za (.int a3):=e3
 have e4:atI (xs.map IV.int) 4=Za (.int a4):=e4
 obtain⟨w1,hw1,ew1⟩:=Jyt (a0/4%2) (by omega) (by omega)
 obtain⟨w2,hw2,ew2⟩:=Jyt (a3/2%2) (by omega) (by omega)
 have l4:(Int.natAbs 4).log2<9000:=by decide
 have l2:(Int.natAbs 2).log2<9000:=by decide
 have nil0:HsOk len []:=⟨by decide,λ x hx=>(by cases hx),λ m n _ hn=>(by rw[Zau] at hn;omega)⟩
 have x1:Ex h (h++[IX.lst []]):=.one _ _
 rw[Jjg]
 simp! [Jdu,Jdv,Jdw,Zau,Zaa,VP,grow hX,e0,decide_eq_true_eq,decide_eq_false_iff_not,show(0:Int)<4 by decide]
 refine⟨λ q1=>⟨λ q2=>?_,λ _=>⟨_,[],rfl,Zr _,Jq,nil0,x1⟩⟩,λ _=>⟨_,[],rfl,Zr _,Jq,nil0,x1⟩⟩
 have s0:=ZaS a1 (b:=len-1) (by omega)
 have s1:=Za1 a1 (b:=len-1) (by omega)
 obtain⟨st,est,s0,s1⟩:∃st,a1%(len-1)=st/\0<=st/\st<len-1:=⟨_,rfl,s0,s1⟩
 have t0:=ZaS a2 (b:=len-1-st) (by omega)
 have t1:=Za1 a2 (b:=len-1-st) (by omega)
 obtain⟨en,een,t0,t1⟩:∃en,st+1+a2%(len-1-st)=en/\st<en/\en<len:=⟨_,rfl,by omega,by omega⟩
 simp! [VP,grow hX,e1,e2,est,een,show(0:Int)<len-1 by omega,show(0:Int)<len-1-st by omega]
 rw[Yk (i:=h.length) (h1:=h++[IX.lst []]) rfl Jq VY]
 simp! [VP,grow (grow hX),e0,l4,ew1,show(0:Int)<4 by decide,show(0:Int)<2 by decide,ZB,Zau,Jgr,Jq]
 refine⟨by omega,by omega,_,grow Jq,by show 0+1<=sizeLine;omega,?_⟩
 rw[show h++[IX.lst []]++[IX.lst [IV.str "ink",IV.str "oven"]]=h++IX.lst []::[IX.lst [IV.str "ink",IV.str "oven"]] by simp,V1]
 have ok1:HsOk len [(w1,st,en)]:=HsOk.snoc nil0 (by decide) ⟨hw1,s0,t0,t1⟩ λ b hb'=>by cases hb'
 have gX:(h++IX.lst [IV.tup [IV.str w1,IV.int st,IV.int en]]::[IX.lst [IV.str "ink",IV.str "oven"]])[X]?=Za (.lst (xs.map .int)):=grow hX
 simp! [VP,gX,e3,decide_eq_true_eq,decide_eq_false_iff_not,show(0:Int)<2 by decide]
 have k1:(h++IX.lst [IV.tup [IV.str w1,IV.int st,IV.int en]]::[IX.lst [IV.str "ink",IV.str "oven"]])[h.length]?=Za (.lst ([(w1,st,en)].map tupH)):=Jx
 refine⟨λ q3=>⟨λ q4=>?_,λ _=>⟨_,[(w1,st,en)],rfl,Zr _,k1,ok1,.cons _ _ _⟩⟩,λ _=>⟨_,[(w1,st,en)],rfl,Zr _,k1,ok1,.cons _ _ _⟩⟩
 have u0:=ZaS a4 (b:=len-1-en) (by omega)
 have u1:=Za1 a4 (b:=len-1-en) (by omega)
 rw[Yk (i:=h.length) (h1:=h++IX.lst [IV.tup [IV.str w1,IV.int st,IV.int en]]::[IX.lst [IV.str "ink",IV.str "oven"]]) rfl Jx VY]
 simp! [VP,grow gX,e3,e4,l2,ew2,show(0:Int)<2 by decide,show(0:Int)<len-1-en by omega,ZB,Zau,Jgr,Jq]
 refine⟨by omega,by omega,_,grow Jx,by show 1<sizeLine;omega,?_⟩
 rw[ZF,ZS,V1]
 refine⟨_,[(w1,st,en),(w2,en,en+1+a4%(len-1-en))],rfl,Zr _,Jx,?_,.cons _ _ _⟩
 exact HsOk.snoc ok1 (by simp) ⟨hw2,by show 0<=en;omega,by show en<en+1+a4%(len-1-en);omega,by show en+1+a4%(len-1-en)<len;omega⟩ λ b hb'=>by
  rw[ZE.mp hb']
  exact .inr (.inl (Zbm _))
end
section
seal L4.run L4.WS
def QY (unit:Int)(many:Nat):Int:=if many<=5 then 8*unit+4 else 2*unit+unit/2
structure P71 (unit:Int)(many:Nat)(r:RH):Prop where
 g1:unit<=r.1.gap
 g2:r.1.gap<=QY unit many
 l1:1<=r.1.len
 l2:r.1.len<=r.1.gap+1
 d1:1<=r.1.due
 d2:r.1.due<=r.1.gap
 t1:0<=r.1.late
 t2:r.1.late<=r.1.gap/4
 ok:HsOk r.1.len r.2
section
variable {k:Nat}{h:IH}
theorem J17 {g f m x:Int}(hg:1<=g)(hf:f=1∨f=2)(hm:1<=m):0<g*f/(2*m)+1/\1<=1+x%(g*f/(2*m)+1)/\1+x%(g*f/(2*m)+1)<=g+1:=by
 have p1:0<=g*f/\g*f<=g*2:=by rcases hf with rfl|rfl<;>omega
 have p3:g*2<=g*(2*m):=Zax (by omega) (by omega)
 have d0:0<=g*f/(2*m):=Int.ediv_nonneg p1.1 (by omega)
 have d1:g*f/(2*m)<=g:=by
  have:=Int.ediv_le_ediv (c:=2*m) (by omega) (Zbx p1.2 p3)
  rwa [Int.mul_ediv_cancel _ (by omega)] at this
 have q1:=ZaS x (b:=g*f/(2*m)+1) (by omega)
 have q2:=Za1 x (b:=g*f/(2*m)+1) (by omega)
 omega
theorem J1z {unit x y:Int}{many:Nat}(hu:1<=unit):unit<=unit*(1+x%8)+y%5/\(many<=5->unit*(1+x%8)+y%5<=QY unit many):=by
 have b1:unit*1<=unit*(1+x%8):=Zax (by omega) (by omega)
 have b2:unit*(1+x%8)<=unit*8:=Zax (by omega) (by omega)
 refine⟨by omega,λ h=>?_⟩
 unfold QY
 rw[if_pos h]
 omega
theorem gap71' {unit x y:Int}{many:Nat}(hu:1<=unit)(h:¬many<=5):∃m:Int,(if 1+unit/2<5 then 1+unit/2 else 5)=m/\0<m/\unit<=unit*(1+x%2)+y%m/\unit*(1+x%2)+y%m<=QY unit many:=by
 have b1:unit*1<=unit*(1+x%2):=Zax (by omega) (by omega)
 have b2:unit*(1+x%2)<=unit*2:=Zax (by omega) (by omega)
 refine⟨_,rfl,by split<;>omega,?_⟩
 unfold QY
 rw[if_neg h]
 generalize hm:(if 1+unit/2<5 then 1+unit/2 else 5)=m
 have:0<m/\m<=1+unit/2:=by rw[<- hm];split<;>omega
 have q1:=ZaS y (b:=m) (by omega)
 have q2:=Za1 y (b:=m) (by omega)
 omega
theorem Jte {c unit:Int}{many:Nat}(hu:1<=unit)(hu2:unit<=1000000000000000)(hm:1<=many)(hm2:many<=12) :
  WR (Jdd (k+2) [.int c,.int unit,.int (many:Int)] h) λ v h'=>Ex h h'/\∃r q,P71 unit many r/\v=t5h r q/\h.length<=q/\h'[q]?=Za (.lst (r.2.map tupH)):=by
 have hb:=JC
 rw[Jjh]
 refine xfin (xseq (xset (xb (Jg (arg2 rfl rfl) (WR.mono (Jqv (k:=k) (h:=h) c 12 (by decide)) ?_)))))
 rintro _ h1 ⟨i,xs,rfl,_,hi,lx,hx,x1⟩
 clear hx
 have at_:∀n:Nat,n<12->∃x,atI (xs.map IV.int) (n:Int)=Za (.int x):=λ n hn=>at_x (by omega)
 obtain⟨y0,e0⟩:=at_ 0 (by decide)
 obtain⟨y1,e1⟩:=at_ 1 (by decide)
 obtain⟨y2,e2⟩:=at_ 2 (by decide)
 obtain⟨y3,e3⟩:=at_ 3 (by decide)
 obtain⟨y4,e4⟩:=at_ 4 (by decide)
 obtain⟨y5,e5⟩:=at_ 5 (by decide)
 obtain⟨y6,e6⟩:=at_ 6 (by decide)
 clear at_
 have rest:∀(g:Int){N:ISt->IH->Prop},unit<=g->g<=QY unit many->WS (Jdx (k+1) [Za (.int c),Za (.int unit),Za (.int (many:Int)),Za (.ref i),Za (.int g),Zc,Zc,Zc] h1) N
   λ v h'=>Ex h h'/\∃r q,P71 unit many r/\v=t5h r q/\h.length<=q/\h'[q]?=Za (.lst (r.2.map tupH)):=by
  intro g N g1 g2
  obtain⟨f,hf,ef⟩:∃f:Int,(f=1∨f=2)/\atI [IV.int 1,IV.int 2] (y1/5%2)=Za (.int f):=by
   have:y1/5%2=0∨y1/5%2=1:=by omega
   rcases this with q|q<;>rw[q]
   ·exact⟨_,.inl rfl,Vh⟩
   ·exact⟨_,.inr rfl,Vt⟩
  have t60:(100:Int)<=10^60:=by decide +kernel
  have lm:(2*(many:Int)).natAbs.log2<9000:=Jp4 (by omega) (by omega)
  obtain⟨w0,w1,w2⟩:=J17 (g:=g) (f:=f) (m:=(many:Int)) (x:=y2) (by omega) hf (by omega)
  refine xseq (xset (Jg (addE rfl (modE (ixlE rfl rfl hi e2) (addE (QL (mulE rfl (pkE (arg2 rfl rfl) rfl (modE (QL (ixlE rfl rfl (grow hi) e1) rfl (by decide) (by decide)) rfl (by decide)) ef) (.inr (.inl (by omega)))) (mulE rfl rfl (.inl (by decide))) (by omega) lm) rfl) w0)) ?_))
  generalize 1+y2%(g*f/(2*(many:Int))+1)=len at w1 w2
  have xA:Ex h1 (h1++[IX.lst [IV.int 1,IV.int 2]]):=.one _ _
  generalize h1++[IX.lst [IV.int 1,IV.int 2]]=hA at xA ⊢
  have hiA:=xA.get hi
  have u:=half (a:=y3) (b:=y4) (g:=g*9/10+1) (by omega)
  have t:=half (a:=y5) (b:=y6) (g:=g/4+1) (by omega)
  refine xseq (xset (Jg (subE rfl (mulE (modE (ixlE rfl rfl hiA e3) rfl (by decide)) (modE (ixlE rfl rfl hiA e4) (addE (QL (mulE rfl rfl (.inr (.inl (by decide)))) rfl (by decide) (by decide)) rfl) (by omega)) (.inl (by omega)))) ?_))
  refine xseq (xset (Jg (mulE (modE (ixlE rfl rfl hiA e5) rfl (by decide)) (modE (ixlE rfl rfl hiA e6) (addE (QL rfl rfl (by decide) (by decide)) rfl) (by omega)) (.inl (by omega))) ?_))
  obtain⟨due,ed,u1,u2⟩:∃due,g-y3%2*(y4%(g*9/10+1))=due/\1<=due/\due<=g:=⟨_,rfl,by omega,by omega⟩
  obtain⟨late,et,t1,t2⟩:∃late,y5%2*(y6%(g/4+1))=late/\0<=late/\late<=g/4:=⟨_,rfl,by omega,by omega⟩
  rw[ed,et]
  clear ed et u t
  have xc:∀{a:E1}{r:A1}{σ:ISt}{h:IH}{Q:List IV->IH->Prop},WR (a σ h) (λ x h1=>WR (r σ h1) λ xs h2=>Q (x::xs) h2)->WR (Jb a r σ h) Q:=λ x=>(V6 ..).mpr x
  refine xret (xtup (xc (Jg rfl (xc (Jg rfl (xc (Jg rfl (xc (Jg rfl (xc ((Ql ..).mpr (xc ((VT ..).mpr (Jg rfl (Jg rfl (Jg rfl ((VU ..).mpr ⟨_,hiA,?_⟩)))))))))))))))))
  rw[show(Za (7:Int))=Za ((7:Nat):Int) from rfl,Jhz,<-ZdH]
  have xB:Ex hA (hA++[IX.lst ((xs.drop 7).map IV.int)]):=.one _ _
  refine Jg (arg1 rfl) (WR.mono (Jsi (k:=k) Jq (by rw[Zbf];omega)) ?_)
  rintro _ h3 ⟨q,hs,rfl,hq,gq,ok,x3⟩
  have x1B:=(x1.trans xA).trans xB
  have l1:=x1B.len
  exact Jg rfl ⟨by show 5<=sizeLine;omega,x1B.trans x3,⟨⟨⟨#[]⟩,g,len,due,late⟩,hs⟩,q,⟨g1,g2,w1,w2,u1,u2,t1,t2,ok⟩,rfl,by omega,gq⟩
 obtain⟨z1,z2⟩:=J1z (unit:=unit) (x:=y0) (y:=y1) (many:=many) hu
 refine xseq (xset (Jg (addE (mulE rfl (addE rfl (modE (ixlE rfl rfl hi e0) rfl (by decide))) (.inr (.inl (by omega)))) (modE (ixlE rfl rfl hi e1) rfl (by decide))) (xseq (xifd (gtE rfl rfl) (λ q=>?_) λ q=>xnil (rest _ z1 (z2 (by omega)))))))
 obtain⟨m,em,m0,m1,m2⟩:=gap71' (unit:=unit) (x:=y0) (y:=y1) (many:=many) hu (by omega)
 exact xset (Jg (addE (mulE rfl (addE rfl (modE (ixlE rfl rfl hi e0) rfl (by decide))) (.inr (.inl (by omega)))) (modE (ixlE rfl rfl hi e1) (okc (minE rfl (addE rfl (QL rfl rfl (by decide) (by decide)))) (congrArg IV.int em)) m0)) (rest _ m1 m2))
end
end
section
seal L4.run L4.WS
theorem Jm2 (W:List RH):JH [] W↔∀i (hi:i<W.length),Fit (W.take i) W[i] (W.drop (i+1)):=by
 constructor
 ·intro h i hi
  have:=h.at_ (W.take i) (W.drop (i+1)) W[i] (by rw[<- Zay hi,List.take_append_drop])
  rwa [Za3] at this
 ·intro h
  refine Jiv λ A B r e=>?_
  subst e
  have:=h A.length (by simp)
  rw[Za3]
  simpa using this
section
variable {k:Nat}{h:IH}
open Classical in
def fitB (W:List RH)(v:IV):Bool:=match v with
 | .int n=>decide (∃hi:n.toNat<W.length,Fit (W.take n.toNat) W[n.toNat] (W.drop (n.toNat+1)))
 | _=>Zh
theorem RowsH.pk {ys:List IV}{rs:List RH}{os:List Nat}(R:RowsH h ys rs)(ho:∀n∈os,n<rs.length):RowsH h (os.map λ n=>ys.getD n .non) (pk rs os):=by
 have rl:=R.len
 refine⟨by simp[LW.pk],λ i y r a b=>?_⟩
 rw[Z7] at a
 unfold LW.pk at b
 rw[Z7] at b
 cases eo:os[i]? with
 | none=>rw[eo] at a;cases a
 | some n =>
  have hn:=ho n (Zcg eo)
  rw[eo,ZbA,Zw,Zb (show n<ys.length by omega)] at a
  rw[eo,ZbA,Zw,Zb hn] at b
  exact R.at_ n y r (by rw[Zb (by omega)];exact a) (by rw[Zb hn];exact b)
theorem Joa {S O:Nat}{ys:List IV}{rs:List RH}{os:List Nat}{top N:Int}(hS:h[S]?=Za (.lst ys))(R:RowsH h ys rs)(q:Dw rs top N)(hO:h[O]?=Za (.lst (ni os)))(p:os.Perm (Z8 rs.length)) :
  WR (X4 (k+3) [.ref S,.ref O] h) λ v h'=>(∃b,v=.bl b/\(b=Zd↔JH [] (pk rs os)))/\Ex h h':=by
 have hb:=JC
 have rl:=R.len
 have l12:=q.l
 have lo:os.length=rs.length:=by rw[p.length_eq,Zbp]
 have ho:∀n∈os,n<rs.length:=λ n hn=>ZaP.mp (p.mem_iff.mp hn)
 have ln:(ni os).length=os.length:=by simp
 rw[Jej]
 refine xfin (xseq (xset (WR.mono (Qm (h:=h) (xs:=ni os) (chk:=λ h'=>h'[O]?=Za (.lst (ni os))) (f:=λ v=>match v with|.int n=>ys.getD n.toNat .non|_=>.non) ?_ (by omega) (λ h2 q=>q _ _ hO) ?_) ?_)))
 ·simp! [JP,hO]
 ·intro v hv h2 z
  obtain⟨a,ha,rfl⟩:=Zz.mp hv
  obtain⟨n,hn,rfl⟩:=Zz.mp ha
  have hn':n<ys.length:=by have:=ho n hn;omega
  exact Jg (ixlE rfl rfl (z _ _ hS) (Qd (Zb hn'))) ⟨by simp[Zw,hn'],.refl _⟩
 rintro _ _ ⟨rfl,g,rfl⟩
 have ev:(ni os).map (λ v=>match v with|.int n=>ys.getD n.toNat IV.non|_=>IV.non)=os.map λ n=>ys.getD n .non:=by simp[Zco,Function.comp]
 rw[ev]
 have x1:Ex h (h++IX.lst (os.map λ n=>ys.getD n .non)::g):=.cons _ _ _
 have gT:(h++IX.lst (os.map λ n=>ys.getD n .non)::g)[h.length]?=Za (.lst (os.map λ n=>ys.getD n .non)):=Jx
 have R1:=(R.pk ho).kp x1.kp
 have q1:=q.perm (Jkw p).symm
 generalize h++IX.lst (os.map λ n=>ys.getD n .non)::g=h1 at x1 gT R1
 generalize h.length=t at gT
 have l1:=R1.len
 have lp:(pk rs os).length=os.length:=by simp[pk]
 generalize (os.map λ n=>ys.getD n IV.non)=ys1 at gT R1 l1
 generalize pk rs os=W at R1 q1 l1 lp
 refine xret ?_
 have Y:=@Jlq h1 h1 (iRg JR (Jb (eCB (on1 lenI) (Jb (Ja 2) Jd)) Jd)) (Jak (k+2)) [2] [Za (.ref S),Za (.ref O),Za (.ref t)] (rngI 0 (W.length:Int)) (λ _=>True) (λ v=>.bl (fitB W v))
  (by
   rw[Xv]
   refine Jg (arg1 (lenE rfl gT)) ?_
   rw[Xy,l1]
   exact⟨by omega,rfl,rfl,rfl⟩) (by rw[JS];omega) (λ _ _=>trivial) (by
   intro x hx h2 z
   obtain⟨n,hn,rfl⟩:=Zaw.mp hx
   rw[JS] at hn
   rw[V0,show(0:Int)+(n:Int)=n by omega]
   have hn':n<W.length:=by omega
   refine(Ql ..).mpr (Jg (arg2 rfl rfl) (WR.mono (Jxx (k:=k) (z _ _ gT) (R1.kp z) q1 hn') ?_))
   rintro _ h3 ⟨⟨b,rfl,hb'⟩,x3⟩
   refine⟨congrArg IV.bl ?_,x3⟩
   rw[ZbT,hb']
   simp only[fitB,ZbC,decide_eq_true_eq]
   exact⟨λ f=>⟨hn',f⟩,λ ⟨_,f⟩=>f⟩)
 generalize hc:Ju _ _ _ _ _ _ _ _=rc at Y
 obtain⟨g2,rfl⟩:=Y
 refine Jg ((cbE (arg1 hc)).trans (all_map (f:=fitB W) Jx)) ⟨⟨_,rfl,?_⟩,x1.trans (.cons _ _ _)⟩
 rw[ZbO,Jm2]
 constructor
 ·intro al i hi
  have:=al (.int (i:Int)) (by rw[Xl];exact Zz.mpr ⟨_,Zz.mpr ⟨i,ZaP.mpr hi,rfl⟩,rfl⟩)
  simp only[fitB,ZbC,decide_eq_true_eq] at this
  exact this.2
 ·intro al v hv
  rw[Xl] at hv
  obtain⟨a,ha,rfl⟩:=Zz.mp hv
  obtain⟨n,hn,rfl⟩:=Zz.mp ha
  have hn:=ZaP.mp hn
  simp only[fitB,ZbC,decide_eq_true_eq]
  exact⟨hn,al n hn⟩
theorem J15 {i:Nat}(e:h[i]?=Za (.lst [.bl Zh,.bl Zh,.bl Zh,.bl Zh])):cIn (.bl Zd) (.ref i) h=.ok (.bl Zh) h:=by
 have e1:toD h 6 (.ref i)=Za (.list [.bool Zh,.bool Zh,.bool Zh,.bool Zh]):=by
  rw[Jk5 e]
  rfl
 have e2:inI (.bl Zd) (.ref i) h=Za Zh:=by
  unfold inI
  rw[e1,show toD h 6 (.bl Zd)=Za (.bool Zd) from rfl]
  simp[ZR,ZaG,ZaM]
 unfold cIn
 rw[e2]
def Td71 (h:IH)(rs:List RH)(m:Nat)(v:IV):Prop:=(∃O os,v=.ref O/\m<=O/\h[O]?=Za (.lst (ni os))/\os.Perm (Z8 rs.length)/\JH [] (pk rs os))∨(v=.tup [.bl Zd,.bl Zd,.bl Zh]/\∀os:List Nat,os.Perm (Z8 rs.length)->¬JH [] (pk rs os))
theorem Jk7 {D:Nat}{rs:List RH}{top N:Int}(d:D71 h D rs top N):WR (X6 (k+10) [.ref D] h) λ v h'=>Ex h h'/\Td71 h' rs h.length v:=by
 have hb:=JC
 have x1:Jhn "NoRanks"=Za Zd:=by kernel_rfl
 have x2:Jfa "NoRanks"=Za Zd:=by kernel_rfl
 have x3:Jep "NoRanks"=Za Zd:=by kernel_rfl
 have x4:Jho "NoRanks"=Za Zh:=by kernel_rfl
 have x5:Jhm "NoRanks"=Za Zh:=by kernel_rfl
 have x6:Jhp "NoRanks"=Za Zh:=by kernel_rfl
 have x7:Jc8 "NoRanks"=Za Zh:=by kernel_rfl
 rw[Jks]
 refine xfin (xseq (J1g _ _ ?_))
 rw[Jlj,Jq5]
 refine WE.of (Jg (arg1 rfl) ?_)
 refine WE.mono (Jqg (k:=k) d) ?_ ?_
 ·rintro v h1 ⟨⟨O,os,rfl,l,g,p,a⟩,x⟩
  exact xret (Jg rfl ⟨x,.inl ⟨O,os,rfl,l,g,p,a⟩⟩)
 ·rintro n h1 ⟨⟨fs,e⟩,no,x⟩
  refine⟨"NoRanks",_,e,?_⟩
  rw[J21 x1]
  have ty:∀{h2:IH}{g:Str->Option Bool}{b:Bool},Ex h1 h2->g "NoRanks"=Za b->(tyI (.ref n) h2).bind (Vs g)=Za b:=λ x q=>by
   rw[J07 (x.get e)]
   exact q
  have xl:Ex h1 (h1++[IX.lst [.bl Zh,.bl Zh,.bl Zh,.bl Zh]]):=.one _ _
  refine xseq (xset (Jg (lstE (arg4 (isiE rfl (ty (.refl _) x4)) (isiE rfl (ty (.refl _) x5)) (isiE rfl (ty (.refl _) x6)) (isiE rfl (ty (.refl _) x7))) rfl) (xset (Jg (tupE (arg3 (isiE rfl (ty xl x2)) (isiE rfl (ty xl x3)) ((binE rfl rfl).trans (J15 Jq))) rfl) (xret (Jg rfl ⟨x.trans xl,.inr ⟨rfl,no⟩⟩))))))
end
end
section
seal L4.run L4.WS
section
variable {mk:IV->IH->Res IV}{kf:IV->Int}{h:IH}
theorem Jmo:∀(ys:List IV)(ks:List Int)(h':IH),Ex h h'->(∀y∈ys,∀h',Ex h h'->WR (mk y h') λ v h2=>v=.int (kf y)/\Ex h' h2)->WR (VF mk ys ks h') λ v h2=>v=ks++ys.map kf/\Ex h' h2
 | [],ks,h',x,_=>⟨by simp,.refl _⟩
 | y::ys,ks,h',x,q=>by
  obtain⟨v,h2,e,rfl,x2⟩:=(q y Zs h' x).eq
  show WR ((mk y h').nx.bind _) _
  rw[e]
  exact WR.mono (Jmo ys (ks++[kf y]) h2 (x.trans x2) λ y hy=>q y (Zn _ hy)) λ v h3 ⟨a,b⟩=>⟨by rw[a];simp,x2.trans b⟩
theorem Jrk {i:Nat}{ys:List IV}(hi:h[i]?=Za (.lst ys))(l64:ys.length<64)(hm:∀y∈ys,∀h',Ex h h'->WR (mk y h') λ v h2=>v=.int (kf y)/\Ex h' h2) :
  WR (Xn mk i h) λ v h'=>∃h2,Ex h h2/\v=.ref h2.length/\h'=h2++[.lst ((ordK (ys.map kf) ys.length).map λ i=>ys.getD i .non)]:=by
 unfold Xn
 rw[hi]
 dsimp only
 rw[if_pos l64]
 obtain⟨v,h2,e,rfl,x2⟩:=(Jmo ys [] h (.refl _) hm).eq
 rw[e]
 exact⟨h2,x2,rfl,rfl⟩
theorem Jt8 {q:Str}{j i a:Nat}{js:List Nat}{m:E1}{σ:ISt}{Q:IV->IH->Prop}(hj:h[j]?=Za (.tab q))(hi:σ[i]?=Za (Za (.ref a))) :
  WR (Xb q j js (Jb (Ja i) Jd) m σ h) Q=WR (Xn (λ v h'=>m (Za v::js.map λ j=>(σ[j]?).join) h') a h) Q:=by
 have e:Jb (Ja i) Jd σ h=.ok [.ref a] h:=by
  unfold Jb Ja Jd
  rw[hi]
  rfl
 unfold Xb
 rw[e]
 show WR (match h[j]? with|some (.tab q')=>_|_=>_) Q=_
 rw[hj]
 dsimp only
 rw[if_pos rfl]
end
section
variable {k:Nat}{h:IH}
theorem J1i {σ:ISt}{a b:E1}{h1:IH}{P:IV->IH->Prop}(e:a σ h=.ok (.bl Zd) h1)(x:WR (b σ h1) P):WR (eAnd a b tru σ h) P:=by
 rw[Jy2 e rfl]
 exact x
theorem lrE {σ:ISt}{a:E1}{n:Nat}{h1:IH}(e:a σ h=.ok (.int (n:Int)) h1)(l:n<=1000):eLR (Jb a Jd) σ h=.ok (.ref h1.length) (h1++[.lst (ni (Z8 n))]):=by
 refine Jz ?_
 rw[Jyc]
 refine Jg (arg1 e) ⟨_,rfl,by omega,?_⟩
 rw[Xl]
 exact⟨rfl,rfl⟩
theorem Juq:Qo (.tup [.bl Zd,.bl Zd,.bl Zh]) (.tup [.bl Zd,.bl Zd,.bl Zh]) h=Za Zd:=by
 have e1:toD h 6 (.tup [.bl Zd,.bl Zd,.bl Zh])=Za (.tuple [.bool Zd,.bool Zd,.bool Zh]):=rfl
 unfold Qo
 rw[e1]
 simp[ZR,ZaG,ZaM,Zcx]
theorem Jy3 {i j:Nat}{ls:List Int}(hi:h[i]?=Za (.lst (ls.map .int)))(hj:h[j]?=Za (.lst (ls.map .int))):cEq (.ref i) (.ref j) h=.ok (.bl Zd) h:=by
 have e:=Ju0 hi hj
 unfold cNe at e
 unfold cEq
 have e4:QV (.ref i) (.ref j)=Zc:=rfl
 rw[e4] at e ⊢
 dsimp only at e ⊢
 cases q:Qo (.ref i) (.ref j) h with
 | none=>rw[q] at e;cases e
 | some b =>
  rw[q] at e
  cases b with
  | true=>rfl
  | false=>cases e
def dl (rs:List RH)(v:IV):Int:=match v with
 | .int n=>(rs.getD n.toNat rd).1.due-(rs.getD n.toNat rd).1.late
 | _=>0
theorem Jta (ks:List Int)(n:Nat):∃os:List Nat,((ordK ks n).map λ i=>(ni (Z8 n)).getD i .non)=ni os/\os.Perm (Z8 n):=by
 refine⟨ordK ks n,?_,?_⟩
 ·show _=List.map _ (List.map _ _)
  rw[Zco]
  refine List.map_congr_left λ i hi=>?_
  have:=Jqd _ i hi
  simp[Zw,this]
 ·rcases Zd0 n with z|z
  ·subst z
   rw[Jib]
   exact .nil
  ·exact Jgl ks z
theorem Jl9 {S:Nat}{v:IV}{ys:List IV}{rs:List RH}{top N:Int}(h0:h[0]?=Za (.tab "_law_right"))(hS:h[S]?=Za (.lst ys))(R:RowsH h ys rs)(q:Dw rs top N){m:Nat}(t:Td71 h rs m v) :
  WR (Jbk (k+4) [v,.ref S] h) λ v h'=>v=.bl Zd/\Ex h h':=by
 have hb:=JC
 have rl:=R.len
 have l12:=q.l
 rw[Jji]
 refine xfin (xseq (xset (Jg (lrE (n:=rs.length) ((lenE rfl hS).trans (by rw[rl])) (by omega)) (xseq ?_))))
 have x1:Ex h (h++[IX.lst (ni (Z8 rs.length))]):=.one _ _
 have gH:(h++[IX.lst (ni (Z8 rs.length))])[h.length]?=Za (.lst (ni (Z8 rs.length))):=Jq
 generalize h.length=H at gH ⊢
 generalize h++[IX.lst (ni (Z8 rs.length))]=h1 at x1 gH ⊢
 have S1:=x1.get hS
 have R1:=R.kp x1.kp
 rcases t with⟨O,os,rfl,_,gO,p,al⟩|⟨rfl,no⟩
 ·have O1:=x1.get gO
  have lo:os.length=rs.length:=by rw[p.length_eq,Zbp]
  have ln:(ni os).length=os.length:=by simp
  refine xiff (truE (isiE rfl (by rw[Xs O1];rfl))) (xnil (xseq ?_))
  have Y:=@Jlq h1 h1 (J1 (Ja 0)) (Jcr (k+3)) [] [Za (.ref O),Za (.ref S),Za (.ref H)] (ni os) (λ h'=>h'[O]?=Za (.lst (ni os))) (λ v=>.bl ((λ _=>Zd) v))
   (by simp! [JP,O1]) (by omega) (λ h2 z=>z _ _ O1) (by
    intro x hx h2 z
    obtain⟨a,ha,rfl⟩:=Zz.mp hx
    exact Jg (Jy2 (isiE rfl rfl) rfl) ⟨rfl,.refl _⟩)
  generalize hc:Ju _ _ _ _ _ _ _ _=rc at Y
  obtain⟨g2,rfl⟩:=Y
  have ty:(tyI (.ref O) h1).bind Qg=Za Zd:=by rw[Xs O1];rfl
  have at1:((ni os).all λ _=>Zd)=Zd:=by simp
  refine xiff (orF (notE (truE (isiE rfl ty))) (notE (c:=Zd) (truE ((cbE (arg1 hc)).trans ((all_map (f:=λ _=>Zd) Jx).trans (congrArg (λ b=>Res.ok (IV.bl b) _) at1)))))) (xnil ?_)
  have x2:Ex h1 (h1++IX.lst ((ni os).map λ _=>.bl Zd)::g2):=.cons _ _ _
  generalize h1++IX.lst ((ni os).map λ _=>.bl Zd)::g2=h2 at x2 ⊢
  have O2:=x2.get O1
  have es:eCB (on1 QX) (Jb (Ja 0) Jd) [Za (.ref O),Za (.ref S),Za (.ref H)] h2=.ok (.ref h2.length) (h2++[.lst (ni (Z8 rs.length))]):=by
   rw[cbE (arg1 rfl)]
   show QX (.ref O) h2=_
   dsimp only[QX]
   rw[O2]
   dsimp only
   rw[if_pos (by omega),srtI,VC]
   dsimp only
   rw[Jkg p]
  have x3:Ex h2 (h2++[IX.lst (ni (Z8 rs.length))]):=.one _ _
  refine xret (J1i ((binE es rfl).trans (Jy3 Jq (x3.get (x2.get gH)))) ?_)
  have x23:=x2.trans x3
  refine(Ql ..).mpr (Jg (arg2 rfl rfl) (WR.mono (Joa (k:=k) (x23.get S1) (R1.kp x23.kp) q (x23.get O1) p) ?_))
  rintro _ h4 ⟨⟨b,rfl,hb'⟩,x4⟩
  exact⟨congrArg IV.bl (hb'.mpr al),(x1.trans x23).trans x4⟩
 ·have ne:∀{h:IH},cNe (.tup [.bl Zd,.bl Zd,.bl Zh]) (.tup [.bl Zd,.bl Zd,.bl Zh]) h=.ok (.bl Zh) h:=by
   intro h
   unfold cNe
   have e4:QV (.tup [.bl Zd,.bl Zd,.bl Zh]) (.tup [.bl Zd,.bl Zd,.bl Zh])=Zc:=rfl
   rw[e4]
   dsimp only
   rw[Juq]
   rfl
  refine xift (truE (isiE rfl rfl)) (xseq (xif (xtor (Jg (tofE ((binE rfl (tupE (arg3 rfl rfl rfl) rfl)).trans ne)) ⟨(λ z=>by cases z),λ _=>?_⟩))))
  refine(Yq ..).mpr ((Ql ..).mpr (Jg (arg2 rfl rfl) (WR.mono (Joa (k:=k) S1 R1 q gH (.refl _)) ?_)))
  rintro _ h2 ⟨⟨b,rfl,hb'⟩,x2⟩
  cases b with
  | true=>exact absurd (hb'.mp rfl) (no _ (.refl _))
  | false =>
   refine⟨(λ z=>by cases z),λ _=>xnil (xret ((Jt9 ..).mpr ((Ql ..).mpr ((V6 ..).mpr (Jg rfl ((V6 ..).mpr ?_))))))⟩
   have S2:=x2.get S1
   have R2:=R1.kp x2.kp
   have ln:(ni (Z8 rs.length)).length=rs.length:=by simp
   rw[Jt8 (x2.get (x1.get h0)) rfl]
   refine WR.mono (Jrk (kf:=dl rs) (x2.get gH) (by omega) ?_) ?_
   ·intro y hy h3 x3
    obtain⟨a,ha,rfl⟩:=Zz.mp hy
    obtain⟨n,hn,rfl⟩:=Zz.mp ha
    have hn:=ZaP.mp hn
    obtain⟨q2,ey,_⟩:=R2.at_ n _ _ (Zb (show n<ys.length by omega)) (Zb hn)
    have ea:atI ys (n:Int)=Za (t5h rs[n] q2):=Qd (by rw[Zb (by omega),ey])
    have ed:dl rs (.int (n:Int))=rs[n].1.due-rs[n].1.late:=by simp[dl,Zw,hn]
    rw[ed]
    generalize rs[n]=r at ea
    have i2:atI [IV.int r.1.gap,IV.int r.1.len,IV.int r.1.due,IV.int r.1.late,IV.ref q2] 2=Za (.int r.1.due):=rfl
    have i3:atI [IV.int r.1.gap,IV.int r.1.len,IV.int r.1.due,IV.int r.1.late,IV.ref q2] 3=Za (.int r.1.late):=rfl
    exact Jg (subE (ixtE (ixlE rfl rfl (x3.get S2) ea) rfl i2) (ixtE (ixlE rfl rfl (x3.get S2) ea) rfl i3)) ⟨rfl,.refl _⟩
   ·rintro _ _ ⟨h3,x3,rfl,rfl⟩
    rw[ln]
    obtain⟨os,eo,p⟩:=Jta ((ni (Z8 rs.length)).map (dl rs)) rs.length
    rw[eo]
    have x4:Ex h3 (h3++[IX.lst (ni os)]):=.one _ _
    have x14:=(x2.trans x3).trans x4
    refine Jg rfl (WR.mono (Joa (k:=k) (x14.get S1) (R1.kp x14.kp) q Jq p) ?_)
    rintro _ h5 ⟨⟨b,rfl,hb2⟩,x5⟩
    cases b with
    | true=>exact absurd (hb2.mp rfl) (no _ p)
    | false=>exact⟨rfl,(x1.trans x14).trans x5⟩
end
end
section
seal L4.run L4.WS
def nmT (n:Nat):Str:=Zar "s"++(⟨#[if n<5 then 116+n else 92+n]⟩:Str)
theorem Jz6:∀n,n<12->IsNm (nmT n):=by unfold IsNm;decide +kernel
theorem Jw1:∀n,n<12->∀l,l<12->nmT n=nmT l->n=l:=by decide +kernel
theorem cpsT:(Zar "tuvwxabcdefg").cps.toList=(Z8 12).map λ n=>if n<5 then 116+n else 92+n:=by decide +kernel
theorem lenS:(Zar "s").length=1:=by decide +kernel
theorem lenT:(Zar "tuvwxabcdefg").length=12:=by decide +kernel
theorem dw71 {unit:Int}{many:Nat}{rs:List RH}(hu:1<=unit)(hu2:unit<=1000000000000000)(P:∀r∈rs,P71 unit many r)(l:rs.length=many)(hm:many<=12):Dw rs (QY unit many) (if many<=5 then 13 else 3):=by
 have tp:QY unit many<=8*unit+4:=by unfold QY;split<;>omega
 refine⟨λ r hr=>?_,λ r hr=>?_,λ r hr=>(P r hr).ok,λ r hr=>?_,?_,by split<;>decide,by omega⟩
 ·have f:=P r hr
  have f1:=f.g1
  refine⟨by omega,f.l1,f.t1,λ b hb=>?_⟩
  obtain⟨_,h2,h3,h4⟩:=f.ok.each b hb
  unfold LW.tn
  omega
 ·have f:=P r hr
  have f1:=f.g2
  have f2:=f.l2
  have f3:=f.d1
  have f4:=f.d2
  omega
 ·have f:=P r hr
  have f1:=f.g1
  have f2:=f.g2
  have f3:=f.d2
  have f4:=f.t2
  refine⟨by omega,?_⟩
  unfold QY
  split<;>omega
 ·subst l
  split<;>omega
theorem Ju2 {h:IH}{unit:Int}{many:Nat}:∀(ys:List IV)(i0:Nat),(∀y∈ys,∃r q,P71 unit many r/\y=t5h r q/\h[q]?=Za (.lst (r.2.map tupH)))->∃rs:List RH,RowsH h ys rs/\∀i r,rs[i]?=Za r->P71 unit many r/\r.1.name=nmT (i0+i)
 | [],_,_=>⟨[],⟨rfl,λ i y r e=>by simp at e⟩,λ i r e=>by simp at e⟩
 | y::ys,i0,q=>by
  obtain⟨r,p,f,tt,gp⟩:=q y (Zs ..)
  obtain⟨rs,R,P⟩:=Ju2 ys (i0+1) λ z hz=>q z (Zn _ hz)
  refine⟨({ r.1 with name:=nmT i0 },r.2)::rs,⟨by rw[ZB,ZB,R.len],λ i y' s a b=>?_⟩,λ i s e=>?_⟩
  ·cases i with
   | zero =>
    cases Zad a
    cases Zad b
    exact⟨p,tt,gp⟩
   | succ i=>exact R.at_ i y' s a b
  ·cases i with
   | zero =>
    cases Zad e
    exact⟨⟨f.g1,f.g2,f.l1,f.l2,f.d1,f.d2,f.t1,f.t2,f.ok⟩,rfl⟩
   | succ i =>
    have:=P i s e
    rwa [show i0+(i+1)=i0+1+i by omega]
section
variable {k:Nat}{h:IH}
theorem J1e {n q many:Nat}{r:RH}{unit:Int}{vs:List IV}{h0 g:IH}{s0 s1 s2 s3 s4 s12 s13:Option IV}(hu:1<=unit)(f:P71 unit many r)(nm:r.1.name=nmT n)(hn:n<12)(hv:vs.length<=12)(hq:(h0++IX.lst vs::g)[q]?=Za (.lst (r.2.map tupH))){N:ISt->IH->Prop}{R:IV->IH->Prop}
  (K:∀w g',IsH (h0++IX.lst (vs++[w])::g') w r->KpB h0.length (h0++IX.lst vs::g) (h0++IX.lst (vs++[w])::g')->N [s0,s1,s2,s3,s4,Za (.ref h0.length),Za (.int (n:Int)),Za (.int r.1.gap),Za (.int r.1.len),Za (.int r.1.due),Za (.int r.1.late),Za (.ref q),s12,s13] (h0++IX.lst (vs++[w])::g')) :
  WS (JO (J0 (pg (k+5)) "append" 1 (Ja 5) (Jb (QK "Work" (X2 (k+5)) [] (Jb (Jc Jo (eC (.str "s")) (Jc Jh (eC (.str "tuvwxabcdefg")) (Ja 6))) (Jb (Ja 7) (Jb (Ja 8) (Jb (Ja 9) (Jb (Ja 10) (Jb (eCB (on1 Qq) (Jb (Ja 11) Jd)) Jd))))))) Jd))
   [s0,s1,s2,s3,s4,Za (.ref h0.length),Za (.int (n:Int)),Za (.int r.1.gap),Za (.int r.1.len),Za (.int r.1.due),Za (.int r.1.late),Za (.ref q),s12,s13] (h0++IX.lst vs::g)) N R:=by
 have hb:=JC
 have f1:=f.g1
 have eN:∀{σ:ISt}{h:IH},Ja 6 σ h=.ok (.int (n:Int)) h->Jc Jo (eC (.str "s")) (Jc Jh (eC (.str "tuvwxabcdefg")) (Ja 6)) σ h=.ok (.str r.1.name) h:=λ {σ h} e6=>by
  have e1:Jh (.str "tuvwxabcdefg") (.int (n:Int)) h=.ok (.str ⟨#[if n<5 then 116+n else 92+n]⟩) h:=by
   have e:atI (Zar "tuvwxabcdefg").cps.toList (n:Int)=Za (if n<5 then 116+n else 92+n):=by
    rw[cpsT]
    refine Qd ?_
    rw[Z7,List.getElem?_range hn]
    rfl
   simp only[Jh]
   rw[if_pos (by rw[lenT];omega),e]
  rw[binE rfl ((binE rfl e6).trans e1),nm]
  exact Jz ((Jim ..).mpr ⟨by rw[lenS];show 1+1<=sizeLine;omega,rfl,rfl⟩)
 have xc:∀{a:E1}{r:A1}{σ:ISt}{h:IH}{Q:List IV->IH->Prop},WR (a σ h) (λ x h1=>WR (r σ h1) λ xs h2=>Q (x::xs) h2)->WR (Jb a r σ h) Q:=λ x=>(V6 ..).mpr x
 refine Juf (Jue rfl Jx VY (xc ((Yp ..).mpr (xc (Jg (eN rfl) (xc (Jg rfl (xc (Jg rfl (xc (Jg rfl (xc (Jg rfl (xc (Jg (J18 rfl hq) (Jg rfl ?_))))))))))))))))
 generalize hs':r.2.map tupH=hs
 refine WR.mono (Jwx (k:=k) (hs:=hs) (by rw[nm];exact Jz6 n hn) (by omega) f.l1 f.t1 (λ h1=>Jnt f.d1 f.d2) λ h1 z=>hs'▸Jjv (z _ _ (by rw[hs'];exact Jq)) f.ok) ?_
 rintro _ h3 ⟨rfl,g3,rfl⟩
 refine⟨rfl,Jg rfl ?_⟩
 have x3:Ex (h0++IX.lst vs::g) (h0++IX.lst vs::g++[IX.lst hs]++IX.ins "Work" (wfs r.1.name r.1.gap r.1.len r.1.due r.1.late hs)::g3):=(Ex.one _ _).trans (.cons _ _ _)
 have gw:(h0++IX.lst vs::g++[IX.lst hs]++IX.ins "Work" (wfs r.1.name r.1.gap r.1.len r.1.due r.1.late hs)::g3)[List.length (h0++IX.lst vs::g++[IX.lst hs])]?=Za (.ins "Work" (wfs r.1.name r.1.gap r.1.len r.1.due r.1.late hs)):=Jx
 generalize hw:List.length (h0++IX.lst vs::g++[IX.lst hs])=w at gw
 have hne:w≠h0.length:=by rw[<- hw,ZD,ZD,ZB];omega
 have el:h0++IX.lst vs::g++[IX.lst hs]++IX.ins "Work" (wfs r.1.name r.1.gap r.1.len r.1.due r.1.late hs)::g3=h0++IX.lst vs::(g++IX.lst hs::IX.ins "Work" (wfs r.1.name r.1.gap r.1.len r.1.due r.1.late hs)::g3):=by simp
 rw[el] at x3 gw ⊢
 generalize g++IX.lst hs::IX.ins "Work" (wfs r.1.name r.1.gap r.1.len r.1.due r.1.late hs)::g3=g4 at x3 gw
 have kb:KpB h0.length (h0++IX.lst vs::g4) (h0++IX.lst (vs++[.ref w])::g4):=λ j o nj e=>by
  rw[<- V1 (o:=IX.lst vs),ZX (ZT nj)]
  exact e
 refine xapp Jx (by omega) ?_
 rw[V1]
 exact K (.ref w) g4 ⟨w,rfl,hs'▸kb _ _ hne gw⟩ λ j o nj e=>kb j o nj (x3.get e)
end
end
section
seal L4.run L4.WS
section
variable {k:Nat}{h:IH}
theorem e15 (σ:ISt)(h:IH):Jc JM (eC (.int 10)) (eC (.int 15)) σ h=.ok (.int 1000000000000000) h:=Jz (by
 rw[Vo,Qr,Qr,VS]
 exact⟨by decide,congrArg IV.int (by decide +kernel),rfl⟩)
abbrev st71 (s:List IV)(x u:Int)(C:Nat)(a4 a5 a6 a7 a8 a9 a10 a11 a12 a13:Option IV):ISt:=[Za (.rol s),Za (.int x),Za (.int u),Za (.ref C),a4,a5,a6,a7,a8,a9,a10,a11,a12,a13]
theorem J1x {s:List IV}{x u:Int}{C S D:Nat}{ys:List IV}{rs:List RH}{top N:Int}{a5 a6 a7 a8 a9 a10 a11 a13:Option IV}(d:D71 h D rs top N)(h0:h[0]?=Za (.tab "_law_right"))(hS:h[S]?=Za (.lst ys))(R:RowsH h ys rs){Nx:ISt->IH->Prop} :
  WS (Jol (k+11) (st71 s x u C (Za (.ref S)) a5 a6 a7 a8 a9 a10 a11 (Za (.ref D)) a13) h) Nx λ v _=>v=.bl Zd:=by
 have hb:=JC
 refine xseq (xset ((Ql ..).mpr (Jg (arg1 rfl) (WR.mono (Jk7 (k:=k+1) d) ?_))))
 rintro v h1 ⟨x1,t⟩
 refine xseq (xif ?_)
 refine(Jis ..).mpr ((Yq ..).mpr ((Ql ..).mpr (Jg (arg2 rfl rfl) (WR.mono (Jl9 (k:=k+7) (x1.get h0) (x1.get hS) (R.kp x1.kp) d.q t) ?_))))
 rintro _ h2 ⟨rfl,x2⟩
 refine⟨(λ z=>by cases z),λ _=>xnil (xseq ?_)⟩
 have x12:=x1.trans x2
 rcases t with⟨O,os,rfl,lO,gO,p,al⟩|⟨rfl,no⟩
 ·have gO2:=x2.get gO
  refine xift (truE (isiE rfl (by rw[Xs gO2];rfl))) (xseq (Juf (Jue rfl gO2 VY (Jg (arg1 rfl) (xapp gO2 ?_ ?_)))))
  ·have l12:=d.q.l
   rw[Zp,Zp,p.length_eq,Zbp]
   omega
  ·have x3:Ex h (h2.set O (.lst (ni os++[.int 7]))):=by
    obtain⟨g,rfl⟩:=x12
    rw[ZcU _ _ lO]
    exact⟨_,rfl⟩
   generalize h2.set O (.lst (ni os++[.int 7]))=h3 at x3 ⊢
   refine xret ((Ql ..).mpr ((V6 ..).mpr ((Ql ..).mpr (Jg (arg1 rfl) (WR.mono (Jk7 (k:=k+1) (d.kp x3.kp)) ?_)))))
   rintro v h4 ⟨x4,t⟩
   have x34:=x3.trans x4
   refine Jg (arg1 rfl) (WR.mono (Jl9 (k:=k+7) (x34.get h0) (x34.get hS) (R.kp x34.kp) d.q t) ?_)
   rintro _ _ ⟨rfl,_⟩
   rfl
 ·refine xiff (truE (isiE rfl rfl)) (xnil (xret ((Vo ..).mpr ((Ql ..).mpr (Jg (arg1 rfl) (WR.mono (Jk7 (k:=k+1) (d.kp x12.kp)) ?_))))))
  rintro v h4 ⟨x4,t⟩
  rcases t with⟨O,os,rfl,_,_,p,al⟩|⟨rfl,_⟩
  ·exact absurd al (no os p)
  ·refine Jg rfl (Jg (?_:cEq _ _ _=.ok (.bl Zd) h4) rfl)
   unfold cEq
   have e4:QV (.tup [.bl Zd,.bl Zd,.bl Zh]) (.tup [.bl Zd,.bl Zd,.bl Zh])=Zc:=rfl
   rw[e4]
   dsimp only
   rw[Juq]
theorem Ju4 {s:List IV}{x u:Int}{C:Nat}{cs:List Int}(hu:1<=u)(hu2:u<=1000000000000000)(h0:h[0]?=Za (.tab "_law_right"))(h1:h[1]?=Za (.tab "longest_hold"))(gC:h[C]?=Za (.lst (cs.map .int)))(lc:cs.length<=12){Nx:ISt->IH->Prop} :
  WS (Joj (k+11) (st71 s x u C Zc Zc Zc Zc Zc Zc Zc Zc Zc Zc) h) Nx λ v _=>v=.bl Zd:=by
 have hb:=JC
 have X:=@J1u h h (J1 (Ja 3)) (Ji4 (k+11)) [3,2] (st71 s x u C Zc Zc Zc Zc Zc Zc Zc Zc Zc Zc) (cs.map IV.int) (λ h'=>h'[C]?=Za (.lst (cs.map IV.int)))
  (λ _ y h'=>∃r q,P71 u cs.length r/\y=t5h r q/\q≠h.length/\h'[q]?=Za (.lst (r.2.map tupH)))
  (by simp! [JP,gC]) (by rw[Zp];omega)
  (by
   rintro x y h4 h5 kb ⟨r,q,a1,a3,a4,a5⟩
   exact⟨r,q,a1,a3,a4,kb _ _ a4 a5⟩) (λ h4 q=>q _ _ gC) (by
   intro v hx h4 q lt
   obtain⟨c,hc,rfl⟩:=Zz.mp hx
   have hcl:0<cs.length:=List.length_pos_of_mem hc
   refine(Ql ..).mpr (Jg (arg3 rfl rfl (lenE rfl (q _ _ gC))) ?_)
   rw[Zp]
   refine WR.mono (Jte (k:=k+9) hu hu2 (by omega) (by omega)) ?_
   rintro v h5 ⟨x5,r,p,f,tt,lp,gp⟩
   exact⟨x5,r,p,f,tt,by omega,gp⟩)
 refine xseq (xset ?_)
 generalize hc:Ju _ _ _ _ _ _ _ _=rc at X ⊢
 obtain⟨v,h4,rfl,rfl,ys,gS,ly,k4,dS'⟩:=X
 clear hc
 rw[Zp] at ly
 have hP:∀y∈ys,∃r q,P71 u cs.length r/\y=t5h r q/\h4[q]?=Za (.lst (r.2.map tupH)):=λ y hy=>by
  obtain⟨i,hi,rfl⟩:=Zaw.mp hy
  obtain⟨r,q,a1,a3,_,a5⟩:=dS' i _ _ (Zb (show i<(cs.map IV.int).length by rw[Zp];omega)) (Zb hi)
  exact⟨r,q,a1,a3,a5⟩
 have h0:=k4 _ _ h0
 have h1:=k4 _ _ h1
 clear dS' k4 gC
 show WS (Jok _ _ _) _ _
 generalize h.length=S at gS ⊢
 obtain⟨rs,R4,P4⟩:=Ju2 ys 0 hP
 have P4:∀i r,rs[i]?=Za r->P71 u cs.length r/\r.1.name=nmT i:=λ i r e=>by have:=P4 i r e;rwa [ZeI] at this
 have rl:=R4.len
 have q:Dw rs _ _:=dw71 hu hu2 (λ r hr=>by
  obtain⟨i,hi⟩:=Zek.mp hr
  exact(P4 i r hi).1) (show rs.length=cs.length by omega) lc
 refine xseq (xset (Jg (lstE rfl rfl) (xseq (xrng (n:=rs.length) ((lenE rfl (grow gS)).trans (by rw[rl])) (by omega) ?_))))
 refine Q5 (λ n σ h'=>∃vs g a b c d e f,h'=h4++IX.lst vs::g/\σ=st71 s x u C (Za (.ref S)) (Za (.ref h4.length)) a b c d e f Zc Zc/\AllH h' vs (rs.take n)) (λ _ _ _ _=>trivial) ?_ ?_ ⟨[],[],Zc,Zc,Zc,Zc,Zc,Zc,rfl,rfl,⟨rfl,λ i v d a=>by simp at a⟩⟩
 ·rintro n hn _ _ ⟨vs,g,a,b,c,d,e,f,rfl,rfl,w⟩
  rw[V0]
  rw[JS] at hn
  have hn':n<rs.length:=by omega
  obtain⟨f6,nm⟩:=P4 n _ (Zb hn')
  have wl:=w.len
  have hv:vs.length<=12:=by rw[wl,ZN];omega
  obtain⟨q2,ey,gq⟩:=R4.at_ n _ _ (Zb (by omega)) (Zb hn')
  have ea:atI ys (n:Int)=Za (t5h rs[n] q2):=Qd (by rw[Zb (by omega),ey])
  rw[ZV hn',show(0:Int)+(n:Int)=n by omega]
  generalize rs[n]=r at f6 nm ea gq
  refine xnx rfl (xseq ?_)
  rw[Jmv]
  refine Jg (ixlE rfl rfl (grow gS) ea) (xnx rfl ?_)
  refine J1e (k:=k+6) hu f6 nm (by omega) hv (grow gq) ?_
  intro v g' isw kp
  exact⟨_,g',_,_,_,_,_,_,rfl,rfl,AllH.snoc ⟨wl,λ i u d a b=>let ⟨j,e,z⟩:=w.at_ i u d a b;⟨j,e,kp _ _ (λ ej=>by rw[ej,Jx] at z;cases z) z⟩⟩ isw⟩
 ·rintro _ _ ⟨vs,g,a,b,c,d,e,f,rfl,rfl,w⟩
  rw[JS,Zaq (by omega)] at w
  have nd:(rs.map λ r=>r.1.name).Nodup:=by
   rw[List.Nodup,List.pairwise_iff_getElem]
   intro i j hi hj hij e
   rw[Zp] at hi hj
   rw[Za8,Za8,(P4 i _ (Zb hi)).2,(P4 j _ (Zb hj)).2] at e
   have:=Jw1 i (by omega) j (by omega) e
   omega
  refine xseq (xset ((Yp ..).mpr (Jg (arg1 rfl) (WR.mono (Jup (k:=k+8) Jx w (grow h1) q nd) ?_))))
  rintro _ h5 ⟨rfl,x5,d5⟩
  have xx:=(Ex.cons h4 (IX.lst vs) g).trans x5
  exact⟨rfl,J1x d5 (xx.get h0) (xx.get gS) (R4.kp xx.kp)⟩
theorem osE {e:E1}{σ:ISt}{i:Int}{h1:IH}(q:e σ h=.ok (.int i) h1):JK e σ h=.ok (Za i) h1:=by unfold JK;rw[q];rfl
theorem Jvq {ns:List Int}{x u:Int}(hu:1<=u)(hu2:u<=1000000000000000)(h0:h[0]?=Za (.tab "_law_right"))(h1:h[1]?=Za (.tab "longest_hold")){Nx:ISt->IH->Prop} :
  WS (Joi (k+11) [Za (.rol (ns.map IV.int)),Za (.int x),Za (.int u),Zc,Zc,Zc,Zc,Zc,Zc,Zc,Zc,Zc,Zc,Zc] h) Nx λ v _=>v=.bl Zd:=by
 have hb:=JC
 have sl:∀(a b:Nat)(h:IH){σ:ISt},Ja 0 σ h=.ok (.rol (ns.map IV.int)) h->eSl slI (Ja 0) (JK (eC (.int (a:Int)))) (JK (eC (.int (b:Int)))) σ h=.ok (.ref h.length) (h++[.lst (((ns.take b).drop a).map IV.int)]):=λ a b h σ e=>by
  refine Jz ((VT ..).mpr (Jg e (Jg rfl (Jg rfl ?_))))
  rw[Jms,Jvt,<-Ze2,<-ZdH]
  exact⟨rfl,rfl⟩
 refine xseq (xset (Jg (sl 1 6 h rfl) (xseq (xifd (eqE (modE (QL rfl rfl (by decide) (by decide)) rfl (by decide)) rfl) (λ _=>?_) λ _=>xnil (Ju4 hu hu2 (grow h0) (grow h1) Jq (by simp;omega))))))
 have h0:(h++[IX.lst (((ns.take 6).drop 1).map IV.int)])[0]?=_:=grow h0
 have h1:(h++[IX.lst (((ns.take 6).drop 1).map IV.int)])[1]?=_:=grow h1
 generalize h.length=C
 generalize h++[IX.lst (((ns.take 6).drop 1).map IV.int)]=h2 at h0 h1 ⊢
 generalize hA:((ns.take 13).drop 1)=A
 have lA:A.length<=12:=by rw[<- hA];simp;omega
 have h0:(h2++[IX.lst (A.map IV.int)])[0]?=_:=grow h0
 have h1:(h2++[IX.lst (A.map IV.int)])[1]?=_:=grow h1
 have gA:(h2++[IX.lst (A.map IV.int)])[h2.length]?=Za (.lst (A.map IV.int)):=Jq
 have e2:=hA▸sl 1 13 h2 (σ:=st71 (ns.map IV.int) x u C Zc Zc Zc Zc Zc Zc Zc Zc Zc Zc) rfl
 generalize h2.length=a at gA e2
 generalize h2++[IX.lst (A.map IV.int)]=h3 at h0 h1 gA e2
 have Y:=@Jlq h3 h3 (iRg JR (Jb (eC (.int 12)) Jd)) (Ji3 (k+11)) [1] (st71 (ns.map IV.int) x u C Zc Zc Zc Zc Zc Zc Zc Zc Zc Zc) (rngI 0 ((12:Nat):Int)) (λ _=>True) (λ v=>match v with|.int n=>.int (x/64+31*n*n)|_=>.non)
  (by
   rw[Xv]
   refine Jg (arg1 rfl) ?_
   rw[Xy]
   exact⟨by omega,rfl,rfl,rfl⟩) (by rw[JS];omega) (λ _ _=>trivial) (by
   intro v hv h4 z
   obtain⟨n,hn,rfl⟩:=Zaw.mp hv
   rw[JS] at hn
   rw[V0]
   exact Jg (addE (QL rfl rfl (by decide) (by decide)) (mulE (mulE rfl rfl (.inl (by decide))) rfl (.inr (.inl (by omega))))) ⟨rfl,.refl _⟩)
 generalize hc:Ju _ _ _ _ _ _ _ _=rc at Y
 obtain⟨g2,rfl⟩:=Y
 have eB:((rngI 0 ((12:Nat):Int)).map λ v=>match v with|.int n=>.int (x/64+31*n*n)|_=>.non)=((Z8 12).map λ n:Nat=>x/64+31*(n:Int)*n).map IV.int:=by
  rw[Xl]
  simp[Zco,Function.comp]
 rw[eB] at hc
 generalize hB:((Z8 12).map λ n:Nat=>x/64+31*(n:Int)*n)=B at hc
 have lB:B.length=12:=by rw[<- hB];simp
 have x4:Ex h3 (h3++IX.lst (B.map IV.int)::g2):=.cons _ _ _
 have gB:(h3++IX.lst (B.map IV.int)::g2)[h3.length]?=Za (.lst (B.map IV.int)):=Jx
 generalize h3.length=b at gB hc
 generalize h3++IX.lst (B.map IV.int)::g2=h4 at x4 gB hc
 have e5:Jo (.ref a) (.ref b) h4=.ok (.ref h4.length) (h4++[.lst ((A++B).map IV.int)]):=Jz ((Jk9 ..).mpr ⟨_,x4.get gA,_,gB,by rw[Zp,Zp];omega,rfl,by rw[Zbr]⟩)
 refine xseq (xset (Jg ((binE e2 hc).trans e5) (xset ?_)))
 refine(VT ..).mpr (Jg rfl (Jg rfl (Jg (osE (addE rfl (modE (QL rfl rfl (by decide) (by decide)) rfl (by decide)))) ((VU ..).mpr ⟨_,Jq,?_⟩))))
 obtain⟨m,em,m1⟩:∃m:Nat,6+x/64%7=(m:Int)/\m<=12:=⟨(6+x/64%7).toNat,by omega,by omega⟩
 rw[em,Jfg,<-Ze2]
 exact Ju4 hu hu2 (grow (grow (x4.get h0))) (grow (grow (x4.get h1))) Jq (by simp;omega)
theorem Jsu (ns:List Int)(hl:ns.length<=63):∃h',VX 16 [.rol (ns.map IV.int)] [.tab "_law_right",.tab "longest_hold"]=.ok (.bl Zd) h':=by
 suffices h:WR (VX 16 [.rol (ns.map IV.int)] [.tab "_law_right",.tab "longest_hold"]) λ v _=>v=.bl Zd by
  obtain⟨v,h',e,rfl⟩:=h.eq
  exact⟨h',e⟩
 have key:∀(x0:Int) (h:IH){N:ISt->IH->Prop},h[0]?=Za (.tab "_law_right")->h[1]?=Za (.tab "longest_hold")->WS (Joh 15 [Za (.rol (ns.map IV.int)),Za (.int x0),Zc,Zc,Zc,Zc,Zc,Zc,Zc,Zc,Zc,Zc,Zc,Zc] h) N λ v _=>v=.bl Zd:=by
  intro x0 h N h0 h1
  obtain⟨md,em,hm1,hm2⟩:∃x:Int,atI [IV.int 3,IV.int 1000000000000000] (x0%2)=Za (.int x)/\0<x/\x<=1000000000000000:=by
   have:x0%2=0∨x0%2=1:=by omega
   rcases this with q|q<;>rw[q]
   ·exact⟨_,Vh,by decide,by decide⟩
   ·exact⟨_,Vt,by decide,by decide⟩
  have u0:=ZaS (x0/4) (b:=md) (by omega)
  have u1:=Za1 (x0/4) hm1
  refine xseq (xset (Jg (addE rfl (modE (QL rfl rfl (by decide) (by decide)) (pkE (arg2 rfl (e15 _ _)) rfl (modE rfl rfl (by decide)) em) hm1)) ?_))
  exact Jvq (k:=4) (by omega) (by omega) (grow h0) (grow h1)
 rw[Jy6]
 refine xfin (xseq (xset (Jg rfl (xseq ?_))))
 cases ns with
 | nil=>exact xiff (tofE ((binE rfl (lstE rfl rfl)).trans (Jhk (as:=[]) Jq))) (xnil (key 0 _ rfl rfl))
 | cons n ns=>exact xift (tofE ((binE rfl (lstE rfl rfl)).trans (Jhk (as:=n::ns) Jq))) (xset (Jg ((binE rfl rfl).trans (Jz ((Xx ..).mpr ⟨_,Vh,rfl,rfl⟩))) (key n _ rfl rfl)))
end
end
end LW
end
namespace LW
open PySem L2 L3 L4
section
local macro_rules | `(tactic| bv_omega) => `(tactic| exact ⟨scOk.of (by decide +kernel), rfl, rfl, λ _ _ _ _ _ _ => by first | exact len1 λ _ => rfl | exact len2 λ _ _ => rfl | exact len3 λ _ _ _ => rfl | exact len4 λ _ _ _ _ => rfl⟩)
variable {K:W.Frag}{h:ZZ}{mg:Str->Option Ze}{a:Zj}{oc kV dc pm cd ct:Ze}{od an:Option Zj}{sl:Array (Option Ze)}
theorem Jgn:FnB "__init__" "NoRanks.__init__" Jag:=by bv_omega
theorem Jk1:FnB "is_whole" "is_whole" Jc2:=by bv_omega
theorem Jfc:FnB "is_whole_from" "is_whole_from" Jae:=by bv_omega
theorem Jkd:FnB "rounds_up" "rounds_up" Jby:=by bv_omega
theorem Jny:FnB "is_name" "is_name" Jee:=by bv_omega
theorem Jnx:FnB "is_hold" "is_hold" Jed:=by bv_omega
theorem Jka:FnB "lie_apart" "lie_apart" Jbv:=by bv_omega
theorem Jnz:FnB "lies_in" "lies_in" Jef:=by bv_omega
theorem Jg0:FnB "go_together" "go_together" Jat:=by bv_omega
theorem Jem:FnB "all_go_together" "all_go_together" Jaa:=by bv_omega
theorem Jkb:FnB "own_holds" "own_holds" Jbw:=by bv_omega
theorem Jn0:FnB "own_due" "own_due" Jeg:=by bv_omega
theorem Jj6:FnScope Qh.N Qh.ps (Jy Qh.st):=scOk.of (by decide +kernel)
theorem Jjt {C:Zj}{T:Zj}{ox:Ze}{oy:Option Zj}{nx:Nat}{sx:Array (Option Ze)}{tk1:Tok}(ha:W.findIn K (.ref C) "__init__"=Za (Za (.ref a)))(hi:W.isFn K (.ref a)=Zd)(hl:K.lookup a=Za ⟨oc,od,.func (W.fnOf "__init__" "Work.__init__" (Qi Qh.st) (JG Qh.st) (Jy Qh.st) (.ref T) kV dc pm an cd ct),sl⟩)(hc:W.codeIn K cd "Work.__init__"=Zd)(hk:W.keepIn K (.ref a)=Zd)(hd:K.lookup T=Za ⟨ox,oy,.seq #[.none,.int 0 tk1,.none] nx,sx⟩)(hm:W.makesIn K C=Zd)(hq:W.keepIn K (.ref C)=Zd):∃fa fd,Mk K C fa/\DefOk K "__init__" Qh fa fd :=
 ⟨a,_,⟨hm,ha,hi,hq⟩,⟨⟨_,⟨oc,od,kV,dc,pm,an,cd,ct,sl,rfl,hl,hc⟩,hk⟩,Jj6,(by intro j hj;rcases J2y j (show j<=3 from hj) with rfl|rfl|rfl|rfl;exact⟨[.none,.int 0 tk1,.none],λ s us Y hl=>len4 (P:=λ us=>Zc0 s _ ⟨us,[]⟩ (Qh.ps.zip (us++[.none,.int 0 tk1,.none]))) (λ _ _ _ _=>.of_defaults rfl (Y T _ hd) rfl rfl rfl) us (show us.length=4 by rw[ZD] at hl;exact Zcl (m:=3) hl),rfl,[V.non,V.int 0,V.non],.cons rfl (.cons ⟨_,rfl⟩ (.cons rfl (.nil))),λ _ _=>⟨_,_,rfl,rfl,⟨_,_,rfl,rfl,⟨_,_,rfl,rfl,rfl⟩⟩⟩⟩;exact⟨[.int 0 tk1,.none],λ s us Y hl=>len5 (P:=λ us=>Zc0 s _ ⟨us,[]⟩ (Qh.ps.zip (us++[.int 0 tk1,.none]))) (λ _ _ _ _ _=>.of_defaults rfl (Y T _ hd) rfl rfl rfl) us (show us.length=5 by rw[ZD] at hl;exact Zcl (m:=2) hl),rfl,[V.int 0,V.non],.cons ⟨_,rfl⟩ (.cons rfl (.nil)),λ _ _=>⟨_,_,rfl,rfl,⟨_,_,rfl,rfl,rfl⟩⟩⟩;exact⟨[.none],λ s us Y hl=>len6 (P:=λ us=>Zc0 s _ ⟨us,[]⟩ (Qh.ps.zip (us++[.none]))) (λ _ _ _ _ _ _=>.of_defaults rfl (Y T _ hd) rfl rfl rfl) us (show us.length=6 by rw[ZD] at hl;exact Zcl (m:=1) hl),rfl,[V.non],.cons rfl (.nil),λ _ _=>⟨_,_,rfl,rfl,rfl⟩⟩;exact⟨[],λ s us Y hl=>len7 (P:=λ us=>Zc0 s _ ⟨us,[]⟩ (Qh.ps.zip (us++[]))) (λ _ _ _ _ _ _ _=>.of_defaults rfl (Y T _ hd) rfl rfl rfl) us (show us.length=7 by rw[ZD] at hl;exact Zcl (m:=0) hl),rfl,[],.nil,λ _ _=>rfl⟩)⟩⟩
theorem Jj5:FnB "held" "Work.held" Jbr:=by bv_omega
theorem Jkz:FnB "ceilings" "ceilings" Jc0:=by bv_omega
theorem Jii:FnB "turns_held" "turns_held" Ja9:=by bv_omega
theorem Jgo:FnB "longest_hold" "longest_hold" Jah:=by bv_omega
theorem Jnv:FnB "hold_up" "hold_up" Jeb:=by bv_omega
theorem Jig:FnB "comings_in" "comings_in" Ja7:=by bv_omega
theorem Jxm:FnB "load" "load" Jls:=by bv_omega
theorem Jnw:FnB "in_time" "in_time" Jec:=by bv_omega
theorem Jqm:FnB "answer" "answer" Jfh:=by bv_omega
theorem Jez:FnB "may_be_weakest" "may_be_weakest" Jad:=by bv_omega
theorem Jgp:FnB "some_weakest" "some_weakest" Jai:=by bv_omega
theorem Jqn:FnB "ranked" "ranked" Jfi:=by bv_omega
theorem Jkc:FnB "own_works" "own_works" Jbx:=by bv_omega
theorem Jk0:FnB "crowd_of" "crowd_of" Jc1:=by bv_omega
theorem Jj2:FnB "__init__" "Duty.__init__" Jbo:=by bv_omega
theorem Jj3:FnB "size" "Duty.size" Jbp:=by bv_omega
theorem Jj4:FnB "work" "Duty.work" Jbq:=by bv_omega
theorem Jif:FnB "crowd" "Duty.crowd" Jcx:=by bv_omega
theorem Jey:FnB "reordered" "Duty.reordered" Jac:=by bv_omega
theorem Jih:FnB "_law_stream" "_law_stream" Ja8:=by bv_omega
theorem Jj7:FnB "_law_holds" "_law_holds" Jbs:=by bv_omega
theorem Jj8:FnB "_law_plain" "_law_plain" Jbt:=by bv_omega
theorem Jg1:FnB "_law_held_up" "_law_held_up" Jau:=by bv_omega
theorem Jg2:FnB "_law_in_time" "_law_in_time" Jav:=by bv_omega
theorem Jen:FnB "_law_all_in_time" "_law_all_in_time" Jab:=by bv_omega
theorem Jk2:FnB "_law_told" "_law_told" Jc3:=by bv_omega
theorem Jj9:FnB "_law_right" "_law_right" Jbu:=by bv_omega
theorem J0x:FnScope Q8.N Q8.ps (Jy Q8.st):=scOk.of (by decide +kernel)
theorem Jz2 (X:K.In h)(G:h.Ns Zm mg)(ha:W.nsIn K Zm "law"=Za (Za (.ref a)))(hl:K.lookup a=Za ⟨oc,od,.func (W.fnOf "law" "law" (Qi Q8.st) (JG Q8.st) (Jy Q8.st) .none kV dc pm an cd ct),sl⟩)(hc:W.codeIn K cd "law"=Zd)(hk:W.keepIn K (.ref a)=Zd):∃fa fd,mg "law"=Za (.ref fa)/\DefOk K "law" Q8 fa fd/\∀(s:Zk) (v:Ze),Zc0 s fd ⟨[v],[]⟩ [("_law_script",v)] :=
 ⟨a,_,W.mg_of X G ha,Jum (d:=Q8) hl hc hk J0x rfl (len1 (λ _=>rfl)),λ s v=>.of_eq rfl⟩
theorem Jl4 {C:Zj}(pg:W.plainGet K C Str.empty=Zd)(hd:W.hasDictIn K C=Zd)(po:W.plainOver K C=Zd)(sa:W.findIn K (.ref C) "__setattr__"=Za (Za (.builtin "object.__setattr__")))(h1:W.findIn K (.ref C) "__class__"=Za (Za (.builtin "object.__class__")))(h2:W.specialIn K (.builtin "object.__class__") "__get__"=Za (Za (.builtin "getset_descriptor.__get__")))(h3:W.takesIn K (.builtin "object.__class__")=Za Zd)(h4:W.mroIn K C (.type "object")=Za Zd)(n0:W.findIn K (.ref C) "append"=Za Zc)(n1:W.findIn K (.ref C) "at"=Za Zc)(n2:W.findIn K (.ref C) "due"=Za Zc)(n3:W.findIn K (.ref C) "extend"=Za Zc)(n4:W.findIn K (.ref C) "gap"=Za Zc)(n5:W.findIn K (.ref C) "hold_tuples"=Za Zc)(n6:W.findIn K (.ref C) "late"=Za Zc)(n7:W.findIn K (.ref C) "length"=Za Zc)(n8:W.findIn K (.ref C) "name"=Za Zc)(n9:W.findIn K (.ref C) "remove"=Za Zc)(n10:W.findIn K (.ref C) "setdefault"=Za Zc)(n11:W.findIn K (.ref C) "works"=Za Zc):ClsI K C/\All (λ f=>Vc K C f) T.flds :=
 ⟨⟨⟨pg,hd,po,sa⟩,h1,h2,h3,h4⟩,.cons n0 (.cons n1 (.cons n2 (.cons n3 (.cons n4 (.cons n5 (.cons n6 (.cons n7 (.cons n8 (.cons n9 (.cons n10 (.cons n11 (.nil))))))))))))⟩
theorem Jl6 {C:Zj}(ga:W.findIn K (.ref C) "__getattribute__"=Za (Za (.builtin "BaseException.__getattribute__")))(mb:W.mroIn K C (.type "BaseException")=Za Zd)(gn:W.findIn K (.ref C) "__getattr__"=Za Zc)(ca:W.findIn K (.ref C) "__class__"=Za (Za (.builtin "object.__class__")))(mo:W.mroIn K C (.type "object")=Za Zd)(hd:W.hasDictIn K C=Zd):ExI K C:=⟨ga,mb,gn,ca,mo,hd⟩
abbrev DfO (K:W.Frag)(mg:Str->Option Ze)(x:Str)(d:D4):Prop:=∃fa fd,mg x=Za (.ref fa)/\DefOk K x d fa fd
abbrev DmO (K:W.Frag)(C:Zj)(x:Str)(d:D4):Prop:=∃fa fd,Meth K C x fa/\DefOk K x d fa fd
theorem fin {prog:ZA}{w:ZM}{fa:Zj}(X:K.In h)(G:h.Ns Zm mg)(hfa:mg "law"=Za (.ref fa)){C_Work:Zj}{C_Duty:Zj}{C_BadWork:Zj}{C_BadDuty:Zj}{C_TooMany:Zj}{C_NoRanks:Zj}{C_NotKept:Zj}{C_HoldsThings:Zj}{C_DutyError:Zj}{tk_MOST_LETTERS:Tok}{tk_MOST_HOLDS:Tok}{tk_THING:Tok}{tk_START:Tok}{tk_END:Tok}{tk_MOST_WORKS:Tok}{tk_MOST_CROWD:Tok}
  (aX_BadWork:W.nsIn K Zm "BadWork"=Za (Za (.ref C_BadWork)))
  (aX_BadDuty:W.nsIn K Zm "BadDuty"=Za (Za (.ref C_BadDuty)))
  (aX_TooMany:W.nsIn K Zm "TooMany"=Za (Za (.ref C_TooMany)))
  (aX_NoRanks:W.nsIn K Zm "NoRanks"=Za (Za (.ref C_NoRanks)))
  (aX_NotKept:W.nsIn K Zm "NotKept"=Za (Za (.ref C_NotKept)))
  (aX_HoldsThings:W.nsIn K Zm "HoldsThings"=Za (Za (.ref C_HoldsThings)))
  (aX_DutyError:W.nsIn K Zm "DutyError"=Za (Za (.ref C_DutyError)))
  (xc_BadWork:W.excIn K C_BadWork [.type "ValueError",.type "Exception",.type "BaseException",.type "object"] "ValueError.__new__"=Zd)
  (xc_BadDuty:W.excIn K C_BadDuty [.type "ValueError",.type "Exception",.type "BaseException",.type "object"] "ValueError.__new__"=Zd)
  (xc_TooMany:W.excIn K C_TooMany [.type "ValueError",.type "Exception",.type "BaseException",.type "object"] "ValueError.__new__"=Zd)
  (ei_BadWork:ExI K C_BadWork)
  (ei_BadDuty:ExI K C_BadDuty)
  (ei_TooMany:ExI K C_TooMany)
  (ei_NoRanks:ExI K C_NoRanks)
  (kk_NoRanks:kits K (.ref C_NoRanks) [(C_BadWork,Zh),(C_BadDuty,Zh),(C_TooMany,Zh),(C_NoRanks,Zd)]=Zd)
  (kk_NotKept:kits K (.ref C_NotKept) [(C_BadWork,Zh),(C_BadDuty,Zh),(C_TooMany,Zh),(C_NoRanks,Zh)]=Zd)
  (kk_BadDuty:kits K (.ref C_BadDuty) [(C_BadWork,Zh),(C_BadDuty,Zd),(C_TooMany,Zh),(C_NoRanks,Zh)]=Zd)
  (kk_TooMany:kits K (.ref C_TooMany) [(C_BadWork,Zh),(C_BadDuty,Zh),(C_TooMany,Zd),(C_NoRanks,Zh)]=Zd)
  (kk_HoldsThings:kits K (.ref C_HoldsThings) [(C_BadWork,Zh),(C_BadDuty,Zh),(C_TooMany,Zh),(C_NoRanks,Zh)]=Zd)
  (kk_DutyError:kits K (.ref C_DutyError) [(C_BadWork,Zd),(C_BadDuty,Zd),(C_TooMany,Zd),(C_NoRanks,Zd)]=Zd)
  (zx_ValueError:W.nsIn K Zm "ValueError"=Za Zc)
  (kk_ValueError:kits K (.type "ValueError") [(C_BadWork,Zd),(C_BadDuty,Zd),(C_TooMany,Zd),(C_NoRanks,Zd)]=Zd)
  (xn_NoRanks:∃fa fd,JV K C_NoRanks fa=Zd/\W.keepIn K (.ref C_NoRanks)=Zd/\DefOk K "__init__" Jag fa fd)
  (sx_NoRanks_stuck:StoX K C_NoRanks "stuck")
  (nx_NoRanks_stuck:W.findIn K (.ref C_NoRanks) "stuck"=Za Zc)
  (bx_DutyError:BasX K C_DutyError)
  (aC_Work:W.nsIn K Zm "Work"=Za (Za (.ref C_Work)))
  (aC_Duty:W.nsIn K Zm "Duty"=Za (Za (.ref C_Duty)))
  (f_is_whole:DfO K mg "is_whole" Jc2)
  (f_is_whole_from:DfO K mg "is_whole_from" Jae)
  (f_rounds_up:DfO K mg "rounds_up" Jby)
  (f_is_name:DfO K mg "is_name" Jee)
  (f_is_hold:DfO K mg "is_hold" Jed)
  (f_lie_apart:DfO K mg "lie_apart" Jbv)
  (f_lies_in:DfO K mg "lies_in" Jef)
  (f_go_together:DfO K mg "go_together" Jat)
  (f_all_go_together:DfO K mg "all_go_together" Jaa)
  (f_own_holds:DfO K mg "own_holds" Jbw)
  (f_own_due:DfO K mg "own_due" Jeg)
  (f_ceilings:DfO K mg "ceilings" Jc0)
  (f_turns_held:DfO K mg "turns_held" Ja9)
  (f_longest_hold:DfO K mg "longest_hold" Jah)
  (f_hold_up:DfO K mg "hold_up" Jeb)
  (f_comings_in:DfO K mg "comings_in" Ja7)
  (f_load:DfO K mg "load" Jls)
  (f_in_time:DfO K mg "in_time" Jec)
  (f_answer:DfO K mg "answer" Jfh)
  (f_may_be_weakest:DfO K mg "may_be_weakest" Jad)
  (f_some_weakest:DfO K mg "some_weakest" Jai)
  (f_ranked:DfO K mg "ranked" Jfi)
  (f_own_works:DfO K mg "own_works" Jbx)
  (f_crowd_of:DfO K mg "crowd_of" Jc1)
  (f_law_stream:DfO K mg "_law_stream" Ja8)
  (f_law_holds:DfO K mg "_law_holds" Jbs)
  (f_law_plain:DfO K mg "_law_plain" Jbt)
  (f_law_held_up:DfO K mg "_law_held_up" Jau)
  (f_law_in_time:DfO K mg "_law_in_time" Jav)
  (f_law_all_in_time:DfO K mg "_law_all_in_time" Jab)
  (f_law_told:DfO K mg "_law_told" Jc3)
  (f_law_right:DfO K mg "_law_right" Jbu)
  (f_law:∃fa fd,mg "law"=Za (.ref fa)/\DefOk K "law" Q8 fa fd/\∀(s:Zk) (v:Ze),Zc0 s fd ⟨[v],[]⟩ [("_law_script",v)])
  (i_Work:∃fa fd,Mk K C_Work fa/\DefOk K "__init__" Qh fa fd)
  (m_Work_held:DmO K C_Work "held" Jbr)
  (c_Work:ClsI K C_Work/\All (λ f=>Vc K C_Work f) T.flds)
  (i_Duty:∃fa fd,Mk K C_Duty fa/\DefOk K "__init__" Jbo fa fd)
  (m_Duty_size:DmO K C_Duty "size" Jbp)
  (m_Duty_work:DmO K C_Duty "work" Jbq)
  (m_Duty_crowd:DmO K C_Duty "crowd" Jcx)
  (m_Duty_reordered:DmO K C_Duty "reordered" Jac)
  (c_Duty:ClsI K C_Duty/\All (λ f=>Vc K C_Duty f) T.flds)
  (g_MOST_LETTERS:W.nsIn K Zm "MOST_LETTERS"=Za (Za (.int 8 tk_MOST_LETTERS)))
  (g_MOST_HOLDS:W.nsIn K Zm "MOST_HOLDS"=Za (Za (.int 6 tk_MOST_HOLDS)))
  (g_THING:W.nsIn K Zm "THING"=Za (Za (.int 0 tk_THING)))
  (g_START:W.nsIn K Zm "START"=Za (Za (.int 1 tk_START)))
  (g_END:W.nsIn K Zm "END"=Za (Za (.int 2 tk_END)))
  (g_MOST_WORKS:W.nsIn K Zm "MOST_WORKS"=Za (Za (.int 12 tk_MOST_WORKS)))
  (g_MOST_CROWD:W.nsIn K Zm "MOST_CROWD"=Za (Za (.int 80 tk_MOST_CROWD)))
  (k_Work_NoneType:W.kitOne K (.type "NoneType") (.ref C_Work)=Za Zh)
  (k_Work_bool:W.kitOne K (.type "bool") (.ref C_Work)=Za Zh)
  (k_Work_int:W.kitOne K (.type "int") (.ref C_Work)=Za Zh)
  (k_Work_str:W.kitOne K (.type "str") (.ref C_Work)=Za Zh)
  (k_Work_list:W.kitOne K (.type "list") (.ref C_Work)=Za Zh)
  (k_Work_tuple:W.kitOne K (.type "tuple") (.ref C_Work)=Za Zh)
  (k_Work_dict:W.kitOne K (.type "dict") (.ref C_Work)=Za Zh)
  (k_Work_Work:W.kitOne K (.ref C_Work) (.ref C_Work)=Za (memS "Work" ["Work"]))
  (k_Work_Duty:W.kitOne K (.ref C_Duty) (.ref C_Work)=Za (memS "Duty" ["Work"]))
  (z_all:W.nsIn K Zm "all"=Za Zc)
  (z_bool:W.nsIn K Zm "bool"=Za Zc)
  (z_enumerate:W.nsIn K Zm "enumerate"=Za Zc)
  (z_int:W.nsIn K Zm "int"=Za Zc)
  (z_isinstance:W.nsIn K Zm "isinstance"=Za Zc)
  (z_len:W.nsIn K Zm "len"=Za Zc)
  (z_list:W.nsIn K Zm "list"=Za Zc)
  (z_max:W.nsIn K Zm "max"=Za Zc)
  (z_min:W.nsIn K Zm "min"=Za Zc)
  (z_range:W.nsIn K Zm "range"=Za Zc)
  (z_reversed:W.nsIn K Zm "reversed"=Za Zc)
  (z_set:W.nsIn K Zm "set"=Za Zc)
  (z_sorted:W.nsIn K Zm "sorted"=Za Zc)
  (z_str:W.nsIn K Zm "str"=Za Zc)
  (z_sum:W.nsIn K Zm "sum"=Za Zc)
  (z_tuple:W.nsIn K Zm "tuple"=Za Zc)
  : ∃fd:Zap,(∀(s:Zk) (v:Ze),Zc0 s fd ⟨[v],[]⟩ [("_law_script",v)])/\∀base:ZZ,K.In base->base.Ns Zm mg->Qs mg base->FnOk prog w K mg base (CXI prog w) 64 fa fd ["_law_script"] (Xp K "_law_script" (VX 16)):=by
 obtain⟨fa',fd,hm,ok,hb⟩:=f_law
 have e:=hfa.symm.trans hm
 cases e
 have XA:All (λ p:Str×Zj=>W.nsIn K Zm p.1=Za (Za (.ref p.2))/\ExI K p.2) [("BadWork",C_BadWork),("BadDuty",C_BadDuty),("TooMany",C_TooMany),("NoRanks",C_NoRanks)]:=.cons (⟨aX_BadWork,ei_BadWork⟩) (.cons (⟨aX_BadDuty,ei_BadDuty⟩) (.cons (⟨aX_TooMany,ei_TooMany⟩) (.cons (⟨aX_NoRanks,ei_NoRanks⟩) (.nil))))
 have O:TabOk (ceOf [("Work",C_Work),("Duty",C_Duty)]) T K mg:=J04 _
  (.cons (f_is_whole) (.cons (f_is_whole_from) (.cons (f_rounds_up) (.cons (f_is_name) (.cons (f_is_hold) (.cons (f_lie_apart) (.cons (f_lies_in) (.cons (f_go_together) (.cons (f_all_go_together) (.cons (f_own_holds) (.cons (f_own_due) (.cons (f_ceilings) (.cons (f_turns_held) (.cons (f_longest_hold) (.cons (f_hold_up) (.cons (f_comings_in) (.cons (f_load) (.cons (f_in_time) (.cons (f_answer) (.cons (f_may_be_weakest) (.cons (f_some_weakest) (.cons (f_ranked) (.cons (f_own_works) (.cons (f_crowd_of) (.cons (f_law_stream) (.cons (f_law_holds) (.cons (f_law_plain) (.cons (f_law_held_up) (.cons (f_law_in_time) (.cons (f_law_all_in_time) (.cons (f_law_told) (.cons (f_law_right) (.cons (⟨_,_,hm,ok⟩) (.nil))))))))))))))))))))))))))))))))))
  (.cons ((let ⟨fa,fd,p,q⟩:=i_Work;⟨C_Work,fa,fd,W.mg_of X G aC_Work,by kernel_rfl,p,q⟩)) (.cons ((let ⟨fa,fd,p,q⟩:=i_Duty;⟨C_Duty,fa,fd,W.mg_of X G aC_Duty,by kernel_rfl,p,q⟩)) (.nil)))
  (.cons (⟨C_Work,by kernel_rfl,.cons (m_Work_held) (.nil)⟩) (.cons (⟨C_Duty,by kernel_rfl,.cons (m_Duty_size) (.cons (m_Duty_work) (.cons (m_Duty_crowd) (.cons (m_Duty_reordered) (.nil))))⟩) (.nil)))
  (.cons (⟨_,.int 8,W.mg_of X G g_MOST_LETTERS,⟨tk_MOST_LETTERS,rfl⟩,λ _ _=>rfl⟩) (.cons (⟨_,.int 6,W.mg_of X G g_MOST_HOLDS,⟨tk_MOST_HOLDS,rfl⟩,λ _ _=>rfl⟩) (.cons (⟨_,.int 0,W.mg_of X G g_THING,⟨tk_THING,rfl⟩,λ _ _=>rfl⟩) (.cons (⟨_,.int 1,W.mg_of X G g_START,⟨tk_START,rfl⟩,λ _ _=>rfl⟩) (.cons (⟨_,.int 2,W.mg_of X G g_END,⟨tk_END,rfl⟩,λ _ _=>rfl⟩) (.cons (⟨_,.int 12,W.mg_of X G g_MOST_WORKS,⟨tk_MOST_WORKS,rfl⟩,λ _ _=>rfl⟩) (.cons (⟨_,.int 80,W.mg_of X G g_MOST_CROWD,⟨tk_MOST_CROWD,rfl⟩,λ _ _=>rfl⟩) (.nil))))))))
  (.cons (c_Work) (.cons (c_Duty) (.nil)))
  (.cons (⟨C_Work,W.mg_of X G aC_Work,k_Work_NoneType,k_Work_bool,k_Work_int,k_Work_str,k_Work_list,k_Work_tuple,k_Work_dict,.cons (k_Work_Work) (.cons (k_Work_Duty) (.nil))⟩) (.nil))
  (.cons (W.mg_none_of X G z_all) (.cons (W.mg_none_of X G z_bool) (.cons (W.mg_none_of X G z_enumerate) (.cons (W.mg_none_of X G z_int) (.cons (W.mg_none_of X G z_isinstance) (.cons (W.mg_none_of X G z_len) (.cons (W.mg_none_of X G z_list) (.cons (W.mg_none_of X G z_max) (.cons (W.mg_none_of X G z_min) (.cons (W.mg_none_of X G z_range) (.cons (W.mg_none_of X G z_reversed) (.cons (W.mg_none_of X G z_set) (.cons (W.mg_none_of X G z_sorted) (.cons (W.mg_none_of X G z_str) (.cons (W.mg_none_of X G z_sum) (.cons (W.mg_none_of X G z_tuple) (.nil)))))))))))))))))
  (.cons (⟨C_BadWork,W.mg_of X G aX_BadWork,aX_BadWork,xc_BadWork⟩) (.cons (⟨C_BadDuty,W.mg_of X G aX_BadDuty,aX_BadDuty,xc_BadDuty⟩) (.cons (⟨C_TooMany,W.mg_of X G aX_TooMany,aX_TooMany,xc_TooMany⟩) (.nil))))
  (.cons (⟨(.ref C_NoRanks),.inl (W.mg_of X G aX_NoRanks),V7 (bs:=[Zh,Zh,Zh,Zd]) XA rfl kk_NoRanks⟩) (.cons (⟨(.ref C_NotKept),.inl (W.mg_of X G aX_NotKept),V7 (bs:=[Zh,Zh,Zh,Zh]) XA rfl kk_NotKept⟩) (.cons (⟨(.ref C_BadDuty),.inl (W.mg_of X G aX_BadDuty),V7 (bs:=[Zh,Zd,Zh,Zh]) XA rfl kk_BadDuty⟩) (.cons (⟨(.ref C_TooMany),.inl (W.mg_of X G aX_TooMany),V7 (bs:=[Zh,Zh,Zd,Zh]) XA rfl kk_TooMany⟩) (.cons (⟨(.ref C_HoldsThings),.inl (W.mg_of X G aX_HoldsThings),V7 (bs:=[Zh,Zh,Zh,Zh]) XA rfl kk_HoldsThings⟩) (.cons (⟨(.ref C_DutyError),.inl (W.mg_of X G aX_DutyError),V7 (bs:=[Zd,Zd,Zd,Zd]) XA rfl kk_DutyError⟩) (.cons (⟨(.type "ValueError"),.inr ⟨W.mg_none_of X G zx_ValueError,rfl⟩,V7 (bs:=[Zd,Zd,Zd,Zd]) XA rfl kk_ValueError⟩) (.nil))))))))
  (xms:=.cons ((let ⟨fa,fd,p,q,r⟩:=xn_NoRanks;⟨C_NoRanks,fa,fd,W.mg_of X G aX_NoRanks,aX_NoRanks,p,q,Jy4 p,r⟩)) (.nil))
  (xfs:=.cons (.cons (⟨C_NoRanks,aX_NoRanks,sx_NoRanks_stuck,ei_NoRanks,nx_NoRanks_stuck⟩) (.nil)) (.nil))
  (xbs:=.cons (⟨C_DutyError,W.mg_of X G aX_DutyError,bx_DutyError⟩) (.nil))
 exact⟨fd,hb,λ base _ _ B=>Jwu O (λ _=>B) 16 rfl ok⟩
end
end LW
open PySem L2
theorem LW.walk {l:W.OpenLaw}{q:ZA}{loose:List Str}{XP:(Str->Option Ze)->ZZ->Prop}{YP:ZM->ZZ->Prop}{d:DefRec}{K:Params->W.Frag}{ts:List Zj}(hn:l.most=Za 63)(hdf:d.params.defaults=[])
  (hY:∀(w:ZM) (h:ZZ),YP w h->(K w.params).In h/\∀p∈ts,h.get? p=Za (W.tabObj #[]))(hc:∀w:ZM,L4.QJ (K w.params) ["_law_right","longest_hold"] ts=Zd)
  (F:∀(w:ZM)(mg:Str->Option Ze)(fa:Zj)(h:ZZ),(K w.params).In h->h.Ns Zm mg->mg d.name=Za (.ref fa) ->
   ∃fd:Zap,(∀(s:Zk) (u:Ze),Zc0 s fd ⟨[u],[]⟩ [("_law_script",u)])/\∀base:ZZ,(K w.params).In base->base.Ns Zm mg->L3.Qs mg base->FnOk l.prog w (K w.params) mg base (L3.CXI l.prog w) 64 fa fd ["_law_script"] (L3.Xp (K w.params) "_law_script" (LW.VX 16))) :
  W.WalkO q loose XP YP l.row.toRowW d [] (λ f vs=>PySem.call f vs) :=
 L4.Jt1 (n:=63) (k:=64) (x:="_law_script") (f:=LW.VX 16) (qs:=["_law_right","longest_hold"]) (ts:=ts) hn (by decide) hdf ⟨rfl,by decide,by decide⟩ hY hc F λ ns hl=>LW.Jsu ns hl
open PySem PySem.W PyProof.Rows
structure PySem.W.Fast:Prop where (tw13920535719116320149 tw2877111593793378914 tw3102992805247552445 tw18393696466652270769 tw14360319266087374727 tw14752601772652002072 tw2200722600429743180 tw6238308115050944969 tw3686602506850877311 tw3948156232125517920
tw12472422219687906551 tw9979831709140963503 tw1383294986337690341 tw1841922563899123974 tw8352073124171790386 tw6141075882964346376 tw17151434959851866945 tw805834517358796748 tw8585344449706249252 tw15021328734778491513
tw13808621911214079650 tw13172791330865775347 tw11151774512460917802 tw9816414863942550899 tw5226505109996544774 tw9621085146579384675 tw14565645915294331958 tw10401064188549011238 tw8665539788994360749 tw13416452624609825163
tw13377126268409139882 tw7716606111618389549 tw11286009066041964759 tw3168074447908368061 tw16490584568908052530 tw15433307566414099050 tw16889700960155990612 tw16126847109195537470 tw421357754496526935 tw11616362690845244274
tw13713197488688990748 tw6521945619273102837 tw12376449537349782981 tw11235586987555473853 tw7536271444945666698 tw15035711015562071087 tw5980096149355048228 tw13006265345553051238 tw4985134233626751400 tw14776228533714620662
tw7172795123272258553 tw17329551221726938397 tw6897839432595367203 tw4154065222443143354 tw4431036662053297224 tw16928094029794861721 tw9045119093954658266 tw10796034964517263260 tw13855649638746324379 tw3188756153553500009
tw17008950837252384950 tw3738847176107218687 tw562517202790097713 tw35505836167709664 tw4159370443084942454 tw6173423005554412252 tw4839667031003354433 tw7919050818676982049 tw2732019578909467358 tw199266744187850994
tw4767129741818714272 tw17006931785083471055 tw6442005858677777831 tw3511221933333664123 tw13157035352158728225 tw2146822721957463295 tw16815283461474413127 tw6306837930479101742 tw7086814350618121179 tw1441663284052924463
tw1028524054532477484 tw10104367372284628397 tw9633686830055104164 tw15533488092812672008 tw7716125336763927720 tw381842676668690907 tw12473603860135532650 tw2678546063990789788 tw13378765546684015147 tw8266117497050108416
tw8934671197910410591 tw6941301024708470708 tw5298855769115832351 tw7535983455210267391 tw6612515503009266888 tw3630155552322025166 tw17501265604948381619 tw14518963071415617704 tw15470614226384060162 tw6199520868513022706
tw14171235074553443779 tw11768109049973320238 tw15207746584134165224 tw8347332470014222023 tw8005140107328060213 tw12441423211181300964 tw6965391050821451467 tw7540355136095552951 tw91998807852763858 tw7184026671782271012
tw9051694145192359233 tw11541602394790903219 tw11488466465634842270 tw6813772981666276697 tw10050728290466096384 tw8326313181903219041 tw13858273526615455224 tw6055607898662229099 tw12670013995492705216 tw7443939448791799399
tw14147622336116568275 tw17875126943785324486 tw12983191058177416781 tw10734138828052486908 tw8451794055900303870 tw17716396498192621058 tw332983716663299073 tw11387223119993117709 tw6176799343697591133 tw14809302340989839654
tw9684797694685932340 tw15340127199451288753 tw4780542163891653398 tw16778046032247445099 tw8268740144434993983 tw1643456832636182600 tw14913397719063359876 tw13497819800570836192 tw5279703691218124715 tw2130034123304972659
tw6603414240476324707 tw2530264146867725123 tw11445996619402023563 tw13724800222296694261 tw1424609612954684997 tw14626516314017108950 tw17736721956248990319 tw7988596233093195542 tw5808137209438012142 tw6625196358120652090
tw2849255472074613424 tw17758112450391314995 tw14860009307497518275 tw7255045012545632493 tw13929784418691045132 tw6811621773723764974 tw17065207608540197478 tw5831812831144965082 tw15185403246282876237 tw5906184713100326764
tw10104016767102316172 tw7666667661190213762 tw2144511543698891437 tw1831894848792158581 tw8230110165993481691 tw16566446084780656592 tw8735896509054886153 tw15972403938524151330 tw8583929752378279500 tw10119188904682505269
tw17083920166796575853 tw2641589838342517601 tw10059250381831485549 tw16634604688469742128 tw1513624387880113051 tw5055235949131810625 tw11198205896847508425 tw2981375824915414280 tw8064927723384521261 tw4533029049500233747
tw11675415171426545338 tw10836496518887394702 tw8435902590542493283 tw11205524680720572280 tw1470645697976620934 tw11683374080299415411 tw9801307017683297615 tw1368170350957843229 tw5924444620654155370 tw12857770216326540772
tw13579052019034159645 tw5845777748101363875 tw3562008735999042821 tw15287866643056564168 tw3575441412546969421 tw13284490590541230913 tw13895267182835211868 tw6672122866174938012 tw11646513774653149242 tw3007442368044496074
tw5137462795535302437 tw2563049252378497089 tw6508710558315875100 tw964443748252275668 tw7586906660844225627 tw12400396832527219260 tw11152201232624622005 tw495796166116334261 tw11169774535841453247 tw8588419582506363931
tw16704978720546738308 tw4335150838766653021 tw1077990042603074753 tw3432944942749499583 tw7667093957646761394 tw9558389375093853000 tw7270033443304585749 tw16075063464509652345 tw9897433201463014458 tw14580955896742712792
tw6382466387455542495 tw14093389517351992333 tw8571675070455713413 tw16343138482396004821 tw16529539078977000240 tw16804503370226378655 tw5025605017104015536 tw9850182510191596179 tw11636385360056616466 tw14000787273823158842
tw300241177291318537 tw13298774957084224789 tw15577399479833345340 tw13337307641846811693 tw16561589650877505700 tw10589041768453492499 tw18111334236903867131 tw14137315203306591883 tw13366213518956770523 tw7455852007511141632
tw11335676088679526020 tw11096433714676957733 tw4818411934336662683 tw11665101754828784564 tw4278627973524107905 tw4666866823669860918 tw4554254019369912402 tw16084947165210971045 tw16272944577373478636 tw7244139883644532653
tw445348587108779727 tw17541855337726228846 tw5844760662788874421 tw8038876174697875852 tw13817297745971021449 tw7077882693396151105 tw15296987551422139051 tw6646969576197352150 tw15497414773729490665 tw15601038578523444655
tw4262333222174211751 tw1401835529970790680 tw267131842519164584 tw1493376567131538872 tw2717346486459952042 tw6193502161289459722 tw3966552739013158252 tw11039173316427054313 tw11855969280091104383 tw2376720665003918708
tw14400557972257542636 tw5244924345023011673 tw12563498015261264318 tw4232330060685646420 tw12236926513346084293 tw4778580999878076484 tw6189640278726366248 tw1917508717140787995 tw4179424872418354052 tw14747809575164925275
tw3987637518816770631 tw230224964167706100 tw1429483832829042551 tw4980174538523564200 tw17156783328441565920 tw6111908183280437789 tw8068548596178843169 tw11736145631848863949 tw5686186630452823985 tw9426326741051009432
tw16465988582768191329 tw17764005895706133525 tw289083632467216554 tw13218305202023715461 tw14888505676916033125 tw941130466855157339 tw1363842215562477141 tw7493614349829068630 tw14533646461865281805 tw17826976812582181756
tw11034912238275993960 tw15255992386285748581 tw3203371028653270973 tw17594240359397762099 tw4258867590416985310 tw15763909749934446128 tw6709096003925851183 tw12234504159270195284 tw13593260695475915658 tw13634171366139141260
tw6619878029852595670 tw318494541857265084 tw17493392911796068237 tw16398163925258476598 tw7572237953143330134 tw1576672971898263190 tw12808533591306253252 tw9431360442918799734 tw4235179853471136795 tw5547111663180471252
tw1239110474026228681 tw11844352236158888660 tw1745869821730404820 tw859044154360910399 tw1013076761622961494 tw2756137894433989041 tw3434796239174507383 tw15555090168784397187 tw5271539050410012985 tw11359287319824552129
tw4781019826993168280 tw13630453480932913632 tw13607704736032347600 tw1793407262352529492 tw9499603812485242911 tw5723082142117119515 tw13131436066884952481 tw388518954624964994 tw12432882532260579657 tw4201316614924419101
tw14927335144510743547 tw10610463735286919443 tw6308847237531030415 tw10101680816484431829 tw15320191265521720396 tw3912622000816668633 tw9785777540692348166 tw5431300390010107736 tw6498202420661920181 tw8121003707110356793
tw13147425658648943251 tw8863948966846108282 tw10364114872595778196 tw6122099193873836664 tw1671836252718533316 tw1324564984156996141 tw12076791953183471573 tw14684034248088596043 tw15439273354174100123 tw18250517524183890870
tw18289987912873326102 tw958373662954592941 tw15976472135947820390 tw16876362128036789949 tw13810317845506704272 tw14019358741017525132 tw13271600154718086829 tw14484332985528279675 tw14480663285267835134 tw3187846211029928215
tw10768420288533666106 tw13235086970716202093 tw16853775915574916692 tw12084493612130874798 tw150113238714571470 tw12876810303013911339 tw7336752686940272255 tw17763644144610126290 tw11840471527406934738 tw7199880493965521971
tw2578086399124381767 tw9983154801958193924 tw9299369016145482866 tw18334128082946224346 tw8980082831858177701 tw10709677061492993752 tw12580132815914804375 tw9793290208640176429 tw10051898620760541822 tw13097507595251571979
tw17968261401468000543 tw16424934317184119356 tw11889856867092959518 tw14148035827829283709 tw10809704515489505671 tw5585183406735367463 tw11153192475284448449 tw9852786546524625229 tw2696188872010562284 tw3797560424022916920:True)
set_option maxRecDepth 100000 in
set_option maxHeartbeats 0 in
theorem PySem.Challenge.cw_dutyproof_k71_ranks_found_holds : PySem.Challenge.rw_dutyproof_k71_ranks_found.Holds := by
 w_on;o_law;k_head;(case hw=>w_witness2)
 k_fill
 refine LW.walk (l:=PySem.Challenge.rw_dutyproof_k71_ranks_found) rfl rfl (λ w h Y=>⟨W.km_in_of Y,W.km_tabs_of Y⟩) ?HC ?F
 case HC=>exact λ w=>by kernel_rfl
 case F =>
  intro w mg fa h KX G hmg
  refine' LW.fin KX G hmg ?aA ?aB ?aD ?aE ?aF ?aG ?aH ?aI ?aJ ?aK ?aL ?aM ?aN ?aO ?aP ?aQ ?aR ?aS ?aT ?aU ?aV ?aW ?aX ?aY ?aZ ?bA ?bB ?bC ?bD ?bE ?bF ?bG ?bH ?bI ?bJ ?bK ?bL ?bM ?bN ?bO ?bP ?bQ ?bR ?bS ?bT ?bU ?bV ?bW ?bX ?bY ?bZ ?cA ?cB ?cC ?cD ?cE ?cF ?cG ?cH ?cI ?cJ ?cL ?cM ?cN ?cO ?cP ?cQ ?cR ?cT ?cU ?cV ?cW ?cX ?cY ?cZ ?dA ?dB ?dC ?dD ?dE ?dF ?dG ?dH ?dI ?dJ ?dK ?dL ?dM ?dN ?dO ?dP ?dQ ?dR ?dS ?dT ?dU ?dV ?dW ?dX ?dY ?dZ ?eA
  (case aA|aB|aD|aE|aF|aG|aH=>k_is)
  (case aI=>k_exc)
  (case aJ=>k_exc)
  (case aK=>k_exc)
  (case aL=>(refine' LW.Jl6 ?eB ?eC ?eD ?eE ?eF ?eG;(case eB|eC|eD|eE|eF|eG=>k_is)))
  (case aM=>(refine' LW.Jl6 ?eH ?eI ?eJ ?eK ?eL ?eM;(case eH|eI|eJ|eK|eL|eM=>k_is)))
  (case aN=>(refine' LW.Jl6 ?eN ?eO ?eP ?eQ ?eR ?eS;(case eN|eO|eP|eQ|eR|eS=>k_is)))
  (case aO=>(refine' LW.Jl6 ?eT ?eU ?eV ?eW ?eX ?eY;(case eT|eU|eV|eW|eX|eY=>k_is)))
  (case aP|aQ|aR|aS|aT|aU=>kernel_rfl)
  (case aV=>k_is)
  (case aW=>kernel_rfl)
  (case aX=>exact L4.Jz3 LW.Jgn (by k_is) (by k_is) (by k_is) (by k_is) (by kernel_rfl) (by k_is))
  (case aY=>(refine' L3.StoX.mk ?eZ ?fA ?fB;(case eZ=>kernel_rfl);(case fA=>kernel_rfl);(case fB=>k_is)))
  (case aZ=>k_is)
  (case bA=>(refine' L3.BasX.mk ?fC ?fD ?fE;(case fC|fD|fE=>k_is)))
  (case bB|bC=>k_is)
  (case bD=>exact L4.J2 KX G LW.Jk1)
  (case bE=>exact L4.J2 KX G LW.Jfc)
  (case bF=>exact L4.J2 KX G LW.Jkd)
  (case bG=>exact L4.J2 KX G LW.Jny)
  (case bH=>exact L4.J2 KX G LW.Jnx)
  (case bI=>exact L4.J2 KX G LW.Jka)
  (case bJ=>exact L4.J2 KX G LW.Jnz)
  (case bK=>exact L4.J2 KX G LW.Jg0)
  (case bL=>exact L4.J2 KX G LW.Jem)
  (case bM=>exact L4.J2 KX G LW.Jkb)
  (case bN=>exact L4.J2 KX G LW.Jn0)
  (case bO=>exact L4.J2 KX G LW.Jkz)
  (case bP=>exact L4.J2 KX G LW.Jii)
  (case bQ=>exact L4.J2 KX G LW.Jgo)
  (case bR=>exact L4.J2 KX G LW.Jnv)
  (case bS=>exact L4.J2 KX G LW.Jig)
  (case bT=>exact L4.J2 KX G LW.Jxm)
  (case bU=>exact L4.J2 KX G LW.Jnw)
  (case bV=>exact L4.J2 KX G LW.Jqm)
  (case bW=>exact L4.J2 KX G LW.Jez)
  (case bX=>exact L4.J2 KX G LW.Jgp)
  (case bY=>exact L4.J2 KX G LW.Jqn)
  (case bZ=>exact L4.J2 KX G LW.Jkc)
  (case cA=>exact L4.J2 KX G LW.Jk0)
  (case cB=>exact L4.J2 KX G LW.Jih)
  (case cC=>exact L4.J2 KX G LW.Jj7)
  (case cD=>exact L4.J2 KX G LW.Jj8)
  (case cE=>exact L4.J2 KX G LW.Jg1)
  (case cF=>exact L4.J2 KX G LW.Jg2)
  (case cG=>exact L4.J2 KX G LW.Jen)
  (case cH=>exact L4.J2 KX G LW.Jk2)
  (case cI=>exact L4.J2 KX G LW.Jj9)
  (case cJ=>(refine' LW.Jz2 KX G ?fF ?fG ?fH ?fI;(case fF|fG|fH|fI=>k_is)))
  (case cL=>(refine' LW.Jjt ?fJ ?fK ?fL ?fM ?fN ?fO ?fP ?fQ;(case fJ|fK|fL|fM|fN|fO|fP|fQ=>k_is)))
  (case cM=>exact L4.XY LW.Jj5)
  (case cN=>(refine' LW.Jl4 ?fR ?fS ?fT ?fU ?fV ?fW ?fX ?fY ?fZ ?gA ?gB ?gC ?gD ?gE ?gF ?gG ?gH ?gI ?gJ ?gK;(case fR|fS|fT|fU|fV|fW|fX|fY|fZ|gA|gB|gC|gD|gE|gF|gG|gH|gI|gJ|gK=>k_is)))
  (case cO=>exact L4.J19 LW.Jj2)
  (case cP=>exact L4.XY LW.Jj3)
  (case cQ=>exact L4.XY LW.Jj4)
  (case cR=>exact L4.XY LW.Jif)
  (case cT=>exact L4.XY LW.Jey)
  (case cU=>(refine' LW.Jl4 ?gL ?gM ?gN ?gO ?gP ?gQ ?gR ?gS ?gT ?gU ?gV ?gW ?gX ?gY ?gZ ?iA ?iB ?iC ?iD ?iE;(case gL|gM|gN|gO|gP|gQ|gR|gS|gT|gU|gV|gW|gX|gY|gZ|iA|iB|iC|iD|iE=>k_is)))
  (case cV|cW|cX|cY|cZ|dA|dB=>k_is)
  (case dC|dD|dE|dF|dG|dH|dI|dJ|dK=>kernel_rfl)
  (case dL|dM|dN|dO|dP|dQ|dR|dS|dT|dU|dV|dW|dX|dY|dZ|eA=>k_is)

import PyProof.Rows.All
import Wide.All
import OpenK.AllK
import Wide.FinOn
import Lean
import PyProof.EqAt
import PyProof.EqKinds
import PyProof.TupleCall
import PyProof.ExcBaseAll.ValueError
import PyProof.ExcAttrAll.ValueError
import PyProof.NsDelKeeps
import PySem.Challenge.RW_dutyproof_k38_held_up_no_longer_than_tol
open Option renaming some→Za,none→Zc,map_eq_some_iff→ZF,isSome_iff_exists→Zbn,bind_some→ZbN,join_some→ZbO,getD_some→ZdD
open List renaming getElem?_eq_getElem→Zb,mem_append_right→Zi,length_map→Zj,getD_eq_getElem?_getD→Zl,mem_cons_of_mem→Zn,getElem?_eq_some_iff→Zo,size_toArray→Zu,mem_singleton→Zv,length_append→Zx,getElem?_map→Z1,mem_map→Z3,mem_cons_self→Z4,getElem_mem→Z5,map_cons→Z6,mem_cons→Z7,getElem?_append_right→ZA,length_cons→ZC,getElem?_append_left→ZE,getElem?_set_ne→ZG,getElem?_set_self→ZK,mem_append→ZL,replicate→ZR,not_mem_nil→ZS,range→ZT,append_assoc→Zad,getElem_map→Zag,mem_append_left→Zah,lookup_cons→Zai,mem_iff_getElem→Zam,cons_append→Zan,all_cons→Zar,mem_filter→Zau,nil_append→Zaw,set_append_left→Za1,drop_eq_getElem_cons→Za2,mem_range→Za3,append_nil→Za4,length_singleton→ZaA,take_succ_eq_append_getElem→ZaC,map_map→ZaD,getElem?_cons_succ→ZaE,getElem?_cons_zero→ZaF,eq_nil_of_length_eq_zero→ZaM,toArray→ZaS,length_take→ZaV,all_eq_true→ZaW,map_nil→Zba,take_of_length_le→Zbb,replicate_succ→Zbg,length_nil→Zbh,map_append→Zbi,getElem?_eq_none→Zbk,length_filter_le→Zbl,reverse_cons→Zbr,length_set→Zbt,set_cons_zero→Zbw,pairwise_cons→Zbz,length_replicate→Zb0,findIdx?_eq_none_iff→Zb1,lookup→Zb4,mem_of_getElem?→Zb5,flatten_cons→Zb6,length_range→Zb9,any_cons→ZbB,length_reverse→ZbF,getElem?_replicate→ZbH,length_drop→ZbI,any_eq_true→ZbM,filter_cons→ZbP,find?_cons→ZbX,ext_getElem?→Zce,mapM_cons→Zcf,pairwise_append→Zci,ext_getElem→Zcn,nodup_cons→Zcw,set_cons_succ→Zc0,length_eq_zero_iff→Zc4,findIdx?_eq_some_iff_getElem→Zc5,drop_eq_nil_of_le→ZcC,eraseIdxIfInBounds_toArray→ZcF,set_append_right→ZcH,getElem_inj→ZcJ,mem_of_mem_drop→ZcV,getElem_reverse→ZcW,filterMap_cons→Zdb,findIdx?_cons→Zdp,getElem_range→Zdq,ne_nil_of_mem→Zdr,pairwise_iff_getElem→Zdu,pairwise_map→Zdv,sum_cons→Zd0,length_erase_of_mem→Zd2,drop_length→ZdC,take_length→ZdE,nodup_range→ZdG,filter_cons_of_pos→ZdH,filter_cons_of_neg→ZdI,set_set→ZdS,of_mem_zip→ZdT,getElem?_toArray→ZdW,dropLast_eq_take→ZdX,map_drop→Zes
open PySem renaming wpAny_bind→Zd,Value→Ze,Shared→Zm,Addr→Zp,wpAny_pure→Zw,wpAny→Zy,mainGlobals→Z2,model→Z9,Program→ZB,starEach→ZD,Around→ZN,wpAny_holding→ZU,wpAny_tryCatch→ZV,World→Zab,wpAny_Call_Name_kw→Zaj,mem_of_lookup→Zak,codeAny_builtin→Zal,wpAny_mono→Zap,plainId_quiet→Zas,compareOp→Zav,Heap→Zax,wpAny_updateSeq→Za6,wpAny_letGo→Za8,wpAny_seqItems→ZaG,FuncData→ZaH,assignEach→ZaJ,wpAny_truthy_bool→ZaK,wpAny_pyIter_list→ZaN,binaryOp→ZaU,eval→ZaY,NameKind→Zbj,Scope→Zbm,wpAny_standAt→Zbo,sizeLine_eq→Zbp,backTo→Zbq,seqItems?→Zb2,holding→Zb7,pyNext→ZbG,wpAny_getItem_str_slice→ZbK,Spec→ZbR,rawInt→ZbS,Arguments→Zca,wpAny_newList→Zcb,foldedSetIterable→Zcc,richCompare→Zcg,bootBuiltins→Zck,scanBound→Zcm,behindInMarks→Zcr,letOwnedTupleGo→Zct,codeAny→Zcv,wpAny_loadPart'→Zcx,sysModules→Zcy,builtinsNs→Zcz,sliceBounds→Zc1,wpAny_field→Zc2,keywordEach→Zc3,BindsTo→Zc9,codeAny_mono→ZcB,Operator→ZcE,closureFor→ZcN,updateSeq→ZcO,attributeBase→ZcP,strKind→ZcQ,wpAny_execs_nil→ZcX,post_val_or_str→ZcZ,swapsWith→Zdf,Stmt→Zdh,call_meets→Zdj,wpAny_setField→Zdl,PyData→Zdm,getMethod→Zd4,codeAmong→Zd6,lastMarks→Zd7,noteFrame→Zd8,backToKw→Zd9,wpAny_pyNext_list_item→ZdJ,Result→ZdK,getItem→ZdM,assign→ZdN,argsOk→ZdP,wpAny_rule→ZdQ,wpAny_pyNext_list_end→ZdU,bindArgs→ZdZ,seqIndex_of→Zeb,subscripted→Zec,wpAny_of_eq→Zed,Keyword→Zej,callerA→Zek,cLine→Zep,assignInOrder→Zeq,pyIter→Zeu,wpAny_call→Zew,Within→Zex,GenState→Zey,seqIndex_neg→Ze1,valueAt→Ze2,standAt→Ze3,Builtin→Ze5,IsPart→Ze8,setFlight→Ze9,strValues→ZeA
open PySem.Heap renaming get?_push_of_some→Zg,get?_update_other→Zs,get?_push_size→Zz,lt_size→Z0,get?_update_self→Za9,SameBut→Zc6,size_push→Zc7
open Bool renaming true→Zh,false→Zk,and_eq_true→Zr,false_ne_true→Zt,false_eq_true→ZW,or_eq_true→Za5,not_eq_true'→ZaO,true_eq_false→Zbx,eq_false_iff→Zcd,not_false→Zch,not_true→Zcs,eq_iff_iff→Zcu,or_eq_false_iff→ZcS
open Nat renaming le_refl→Zq,ne_of_lt→Z8,lt_of_lt_of_le→ZJ,zero_le→ZY,le_trans→ZZ,lt_succ_self→Zaz,le_succ→ZaL,ne_of_gt→ZaQ,lt_succ_of_lt→Zb8,add_right_cancel→Zcj,le_of_lt→Zcl,lt_irrefl→Zcq,le_of_eq→Zc8,succ_le_succ→ZcK,le_of_not_lt→ZcL,sub_self→Zdd,eq_zero_or_pos→Zdo,le_of_ble_eq_true→ZdY,add_assoc→Zer
open Int renaming emod_lt_of_pos→ZH,emod_nonneg→ZM,le_refl→Zay,toNat_natCast→ZaZ,mul_le_mul_of_nonneg_left→ZbQ,le_trans→ZbV,lt_of_le_of_lt→ZbW,toNat→Zen
open Ne renaming symm→ZI
open PySem.Around renaming under_plainId→ZO,under→Zez
open PySem.F renaming plain_max_loop→ZP,plain_min_loop→ZQ,entry_max_loop→Zbc,entry_min_loop→Zbd,plainAttrs_list→ZbL,slot_dict_setdefault→ZcY,args_tuple_add_2→Zdw,entry_tuple_add→Zd5,plain_list_iadd→ZdB,slot_tuple_add→ZdL
open PySem.PyData renaming canLayAll0→ZX,canLay0→Za0,eqv→ZcM,list→ZcR,eqvAll→Zd1,tuple→Ze4,strOk→Ze6
open PySem.Value renaming none→Zaa,int→ZbZ,bool→ZcI,ref→Zde,str→Zei,type→Zet
open PySem.Obj renaming mapSeq→Zac,mapFields→ZaP,data_mapFields→ZaT,isFreed_of_fields→ZcG
open PySem.Str renaming ofString→Zae,length→Zev
open PyProof.Rows renaming seqObj→Zaf,callWith_type1→ZaB,evalAll_cons→ZaI,signs→Zby,get?_update_seq→Zb3,evalAll_nil→ZbC,IntsAre→ZbD,callWith_builtin1→ZbJ,subscriptTail_builtinR→ZcA,mirror_size→ZcU,AllBare→Zdc,size_push'→Zdn,spliced_more→Zds,spliced_none→Zdt,subscriptTail→Zdx,listUpdate_at→Zdz,envOfC→Zea,callWith_kw→Zef
open Option.some renaming inj→Zao,injEq→Zbe
open PySem.Builtin.Builtins renaming bindParams→Zaq
open True renaming intro→Zat
open PySem.NameKind renaming free→Za7,cell→Zdy
open ForInStep renaming yield→ZaR
open Array renaming getD_eq_getD_getElem?→ZaX,length_toList→Zbf,getElem?_eq_some_iff→Zbv,getElem?_eq_getElem→Zco,all_toList→ZdF,getElem?_toList→ZdV
open False renaming elim→Zbs
open PyProof.Rows.F renaming plain_set_update_loop→Zbu,entry_set_update_loop→Zcp
open PySem.Builtin.List renaming listTooLong→ZbA
open PySem.W renaming kas_rev→ZbE,kas_asc→ZbU,kas_sort→ZbY,kas_descPart→ZcD,kas_desc→ZcT,kas_place→Zdg,kas_count→ZdA,kas_tail3→Zem
open PySem.Walks renaming list→ZbT
open List.cons renaming injEq→Zda
open PySem.Calls renaming Name_function_global→Zdi,spliced_cons→Zdk,callWith_builtin→ZdO
open PySem.Builtin.Range renaming rangeSize→Zd3
open PySem.Txt renaming slice_le→ZdR,slice→Zel
open PyProof.Rows.IntsAre renaming int_at→Zee
open Sum renaming inl→Zeg,inr→Zeh
open PySem.Paired renaming length→Zeo
open PySem.Code renaming isFrame→Ze0
open PySem.Data renaming cell→Ze7
noncomputable section
set_option Elab.async false
set_option linter.all false
set_option maxRecDepth 100000
abbrev CeT:=PySem.Str->Option PySem.Addr
abbrev QvT:=PySem.Value->PySem.Shared->Prop
abbrev PnT:=List (PySem.Addr×PySem.Obj)
theorem Zf {p:Prop}(h:False):p:=h.elim
namespace L2
open PySem PySem.Spec PyProof.Rows
abbrev Key:=Sum Int Str
def X3:Key->Ze->Bool
 | .inl k,v=>Value.isInt k v
 | .inr x,v=>Value.isStrOf x v
def keyH (w:Zab):Key->Int
 | .inl k=>hashInt k
 | .inr x=>hashStr w x
theorem Vz:∀{k:Key}{v:Ze},X3 k v=Zh->(∃i t,k=Zeg i/\v=ZbZ i t)∨(∃x t,k=Zeh x/\v=Zei x t)
 | .inl i,v,h=>by
  obtain⟨t,e⟩:=Value.isInt_shape (k:=i) (v:=v) h
  exact .inl ⟨i,t,rfl,e⟩
 | .inr x,v,h=>by
  obtain⟨t,e⟩:=Value.isStrOf_shape (x:=x) (v:=v) h
  exact .inr ⟨x,t,rfl,e⟩
theorem Jqv (i:Int)(t:Tok):X3 (.inl i) (.int i t)=Zh:=by simp[X3,Value.isInt]
theorem Jqw (x:Str)(t:Tok):X3 (.inr x) (.str x t)=Zh:=by simp[X3,Value.isStrOf]
theorem Jzz (a b:Int):decide ((Zeg a:Key)=Zeg b)=(a==b):=by
 by_cases e:a=b
 ·subst e;simp
 ·have h:¬(Zeg a:Key)=Zeg b:=λ q=>e (Sum.inl.inj q)
  rw[decide_eq_false h]
  exact(beq_eq_false_iff_ne.mpr e).symm
theorem Jz2 (a b:Str):decide ((Zeh a:Key)=Zeh b)=decide (a=b):=by
 by_cases e:a=b
 ·subst e;simp
 ·have h:¬(Zeh a:Key)=Zeh b:=λ q=>e (Sum.inr.inj q)
  rw[decide_eq_false h,decide_eq_false e]
theorem Jz0 (a:Int)(b:Str):decide ((Zeg a:Key)=Zeh b)=Zk:=decide_eq_false (λ q=>nomatch q)
theorem Jz1 (a:Str)(b:Int):decide ((Zeh a:Key)=Zeg b)=Zk:=decide_eq_false (λ q=>nomatch q)
def Vi (prog:ZB)(w:Zab):PySem.KeyKind prog w Key where
 is:=X3
 hash:=keyH w
 inj:=λ v a b ha hb=>by
  rcases Vz ha with⟨i,t,rfl,rfl⟩|⟨x,t,rfl,rfl⟩
  ·rcases Vz hb with⟨j,u,rfl,e⟩|⟨y,u,rfl,e⟩
   ·injection e with e1 _;rw[e1]
   ·exact nomatch e
  ·rcases Vz hb with⟨j,u,rfl,e⟩|⟨y,u,rfl,e⟩
   ·exact nomatch e
   ·injection e with e1 _;rw[e1]
 byValue:=λ k v h=>by
  rcases Vz h with⟨i,t,rfl,rfl⟩|⟨x,t,rfl,rfl⟩<;>rfl
 pyHash:=λ hv h=>by
  rcases Vz hv with⟨i,t,rfl,rfl⟩|⟨x,t,rfl,rfl⟩
  ·exact wpAny_pyHash_int h
  ·exact wpAny_pyHash_str h
 eqBool:=λ hu hv h=>by
  rcases Vz hu with⟨i,t,rfl,rfl⟩|⟨x,t,rfl,rfl⟩
  ·rcases Vz hv with⟨j,u,rfl,rfl⟩|⟨y,u,rfl,rfl⟩
   ·rw[Jzz] at h;exact wpAny_eqBool_int h
   ·rw[Jz0] at h;exact SeqAt.EqAt.int_str i t y u _ _ _ _ h
  ·rcases Vz hv with⟨j,u,rfl,rfl⟩|⟨y,u,rfl,rfl⟩
   ·rw[Jz1] at h;exact SeqAt.EqAt.str_int x t j u _ _ _ _ h
   ·rw[Jz2] at h;exact wpAny_eqBool_str h
 «strs» :=λ k x t v h=>by
  rcases Vz h with⟨i,u,rfl,e⟩|⟨y,u,rfl,e⟩
  ·exact nomatch e
  ·injection e with e1 _
   subst e1
   cases v<;>rfl
theorem Jmj (prog:ZB)(w:Zab)(i:Int)(t:Tok):(Vi prog w).is (.inl i) (.int i t)=Zh:=Jqv i t
theorem Jmk (prog:ZB)(w:Zab)(x:Str)(t:Tok):(Vi prog w).is (.inr x) (.str x t)=Zh:=Jqw x t
inductive V where
 | non|bl (b:Bool)|int (i:Int)|str (x:Str)|byt (b:Array UInt8)|flt (b:UInt64)|ref (a:Zp)|ty (n:String)
 deriving DecidableEq
def RelV:V->Ze->Prop
 | .non,u=>u=Zaa
 | .bl b,u=>u=ZcI b
 | .int i,u=>∃t,u=ZbZ i t
 | .str x,u=>∃t,u=Zei x t
 | .byt b,u=>∃t,u=Value.bytes b t
 | .flt b,u=>∃t,u=Value.float b t
 | .ref a,u=>u=Zde a
 | .ty n,u=>u=Zet n
abbrev Vals:List V->List Ze->Prop:=Paired RelV
theorem Vals.length {xs:List V}{us:List Ze}(r:Vals xs us):xs.length=us.length:=Zeo r
theorem Vals.get:∀{xs:List V}{us:List Ze}{i:Nat}{x:V},Vals xs us->xs[i]?=Za x->∃u,us[i]?=Za u/\RelV x u
 | _,_,_,_,.nil,e=>by simp at e
 | _,_,0,_,.cons r _,e=>by simp at e;subst e;exact⟨_,rfl,r⟩
 | _,_,i+1,x,.cons _ t,e=>by
  obtain⟨u,h1,h2⟩:=Vals.get (i:=i) (x:=x) t (by simpa using e)
  exact⟨u,by simpa using h1,h2⟩
theorem Vals.set {x:V}{u:Ze}(r:RelV x u):∀{xs:List V}{us:List Ze}(i:Nat),Vals xs us->Vals (xs.set i x) (us.set i u)
 | _,_,_,.nil=>.nil
 | _,_,0,.cons _ t=>.cons r t
 | _,_,i+1,.cons q t=>.cons q (Vals.set r i t)
theorem Vals.append:∀{xs ys:List V}{us ws:List Ze},Vals xs us->Vals ys ws->Vals (xs++ys) (us++ws)
 | _,_,_,_,.nil,s=>s
 | _,_,_,_,.cons r t,s=>.cons r (Vals.append t s)
theorem Vals.take:∀{xs:List V}{us:List Ze}(n:Nat),Vals xs us->Vals (xs.take n) (us.take n)
 | _,_,0,_=>.nil
 | _,_,_+1,.nil=>.nil
 | _,_,n+1,.cons r t=>.cons r (Vals.take n t)
theorem Vals.drop:∀{xs:List V}{us:List Ze}(n:Nat),Vals xs us->Vals (xs.drop n) (us.drop n)
 | _,_,0,r=>r
 | _,_,_+1,.nil=>.nil
 | _,_,n+1,.cons _ t=>Vals.drop n t
def RelO:Option V->Option Ze->Prop
 | some v,Za u=>RelV v u
 | none,Zc=>True
 | _,_=>False
def KV {κ:Type}:List (κ×V)->List (κ×Ze)->Prop:=Paired λ (p:κ×V)(q:κ×Ze)=>p.1=q.1/\RelV p.2 q.2
def kV:Key->V
 | .inl i=>.int i
 | .inr x=>.str x
inductive HO where
 /-- a list -/
 | lst (xs:List V)
 /-- a tuple (never changes) -/
 | tup (xs:List V)
 /-- a dict whose keys are ints and texts; one whose keys are tuples of ints and texts (the empty one is both) -/
 | dK (kvs:List (Key×V))|dT (kvs:List (List Key×V))
 /-- a set of ints: its members, its size -/
 | set (S:Int->Bool) (n:Nat)
 /-- an instance of the class at C, its dict at dx, its attributes -/
 | ins (C dx:Zp) (fs:List (Str×V))
 /-- the dict of the instance at x -/
 | own (x:Zp)
 /-- the dict of an exception -/
 | xd (fs:List (Str×V))
 /-- a bound method, f of x -/
 | met (f x:Zp)
 /-- a range object lo, lo + 1, .. below hi -/
 | rng (lo hi:Int)
 /-- a thing that is known to the object (the script; a dict while a loop walks it): read, never written while it is so -/
 | frz (o:Obj) (u:HO)
 /-- a code object's table -/
 | tbl (ps:Array Ze)
 /-- any other thing, by what is Zh of its one object (a def of one's own: SetO a S n := HO.ext λ h => ..) -/
 | ext (φ:Zax->Prop)
abbrev Hp:=Zp->Option HO
def upd (H:Hp)(a:Zp)(o:HO):Hp:=λ b=>if b=a then Za o else H b
theorem J7 {H:Hp}{a:Zp}{o:HO}:upd H a o a=Za o:=by unfold upd;rw[if_pos rfl]
theorem Jq {H:Hp}{a b:Zp}{o:HO}(h:b≠a):upd H a o b=H b:=by unfold upd;rw[if_neg h]
theorem Vj {H:Hp}{a b:Zp}{o:HO}(h:H a=Za o)(h':H b=Zc):a≠b:=by
 intro e;subst e;rw[h] at h';cases h'
section
variable (P:ZB)(w:Zab)
def JG (H:Hp)(h:Zax)(a:Zp):HO->Prop
 | .lst xs=>xs.length<=sizeLine/\∃(its:List Ze) (n:Nat),Vals xs its/\h.get? a=Za { cls:=.type "list",data:=.seq its.toArray n }
 | .tup xs=>xs.length<=sizeLine/\∃its:List Ze,Vals xs its/\IsTup h a its.toArray
 | .dK kvs=>kvs.length<=sizeLine/\(a==Zcy)=Zk/\∃vs,KV kvs vs/\h.DictOf (Vi P w) a vs
 | .dT kvs=>kvs.length<=sizeLine/\(a==Zcy)=Zk/\∃xs:List (List Key×Zp×Ze),
   Paired (λ (p:List Key×V)(q:List Key×Zp×Ze)=>p.1=q.1/\H q.2.1=Za (.tup (p.1.map kV))/\RelV p.2 q.2.2) kvs xs /\
   ∃o es ep,h.get? a=Za o/\o.ExactDict/\o.data=.dict es ep/\es.toList=xs.map (entryOfKey (tupleKind (Vi P w)))/\(xs.map (·.1)).Nodup
 | .set S n=>h.SetOf (intKind P w) a S n
 | .ins C dx fs=>H dx=Za (.own a)/\fs.length<=1000/\dx≠a/\h.get? a=Za (W.instObj C dx) /\
   ∃mA,h.Ns1 dx mA/\(∀f,RelO (fs.lookup f) (mA f))/\Zex mA (fs.map (·.1))
 | .own _=>∃o,h.get? a=Za o
 | .xd fs=>∃mA,h.Ns1 a mA/\∀f,RelO (fs.lookup f) (mA f)
 | .rng lo hi=>∃t u v,h.get? a=Za { cls:=.type "range",data:=.fields #[.int lo t,.int hi u,.int 1 v] }
 | .frz o u=>h.get? a=Za o/\JG H h a u
 | .tbl ps=>h.get? a=Za { cls:=.none,data:=.fields ps }
 | .met f x=>h.get? a=Za (W.methodObj (.ref f) (.ref x))
 | .ext φ=>φ h/\(∃o,h.get? a=Za o)/\∀h1 h2:Zax,φ h1->(∀o,h1.get? a=Za o->h2.get? a=Za o)->φ h2
def HOk (H:Hp)(h:Zax):Prop:=∀a o,H a=Za o->JG P w H h a o
end
section
variable {P:ZB}{w:Zab}{H H':Hp}{h h':Zax}{a:Zp}{o:HO}
theorem JG.lt (x:JG P w H h a o):a<h.objs.size:=by
 cases o with
 | lst xs=>obtain⟨_,_,_,_,e⟩:=x;exact Z0 e
 | tup xs=>obtain⟨_,_,_,p⟩:=x;exact p.lt
 | dK kvs=>obtain⟨_,_,_,_,o,_,_,e,_⟩:=x;exact Z0 e
 | dT kvs=>obtain⟨_,_,_,_,o,_,_,e,_⟩:=x;exact Z0 e
 | set S n=>obtain⟨o,_,_,_,e,_⟩:=x;exact Z0 e
 | ins C dx fs=>obtain⟨_,_,_,e,_⟩:=x;exact Z0 e
 | own y=>obtain⟨_,e⟩:=x;exact Z0 e
 | xd fs=>obtain⟨_,⟨_,_,_,e,_⟩,_⟩:=x;exact Z0 e
 | rng lo hi=>obtain⟨_,_,_,e⟩:=x;exact Z0 e
 | frz ob u=>obtain⟨e,_⟩:=x;exact Z0 e
 | tbl ps=>exact Z0 (show h.get? a=Za _ from x)
 | met f y=>exact Z0 (show h.get? a=Za _ from x)
 | ext φ=>obtain⟨_,⟨_,e⟩,_⟩:=x;exact Z0 e
theorem Paired.mapP {α β:Type}{F G:α->β->Prop}:∀{l₁:List α}{l₂:List β},Paired F l₁ l₂->(∀a b,F a b->G a b)->Paired G l₁ l₂
 | _,_,.nil,_=>.nil
 | _,_,.cons r t,f=>.cons (f _ _ r) (Paired.mapP t f)
theorem JG.stay (x:JG P w H h a o)(k:∀b u,(b=a∨H b=Za (.own a))->h.get? b=Za u->h'.get? b=Za u)
  (ho:∀b,H b=Za (.own a)->H' b=Za (.own a))(ht:∀b xs,H b=Za (.tup xs)->H' b=Za (.tup xs)):JG P w H' h' a o:=by
 induction o with
 | lst xs=>obtain⟨z,its,n,r,e⟩:=x;exact⟨z,its,n,r,k _ _ (.inl rfl) e⟩
 | tup xs=>obtain⟨z,its,r,ob,e,c⟩:=x;exact⟨z,its,r,ob,k _ _ (.inl rfl) e,c⟩
 | dK kvs=>obtain⟨z,y,vs,r,ob,es,ep,e,c⟩:=x;exact⟨z,y,vs,r,ob,es,ep,k _ _ (.inl rfl) e,c⟩
 | dT kvs =>
  obtain⟨z,y,xs,r,ob,es,ep,e,c⟩:=x
  exact⟨z,y,xs,Paired.mapP r λ p q z=>⟨z.1,ht _ _ z.2.1,z.2.2⟩,ob,es,ep,k _ _ (.inl rfl) e,c⟩
 | set S n=>obtain⟨ob,es,ep,t,e,c⟩:=x;exact⟨ob,es,ep,t,k _ _ (.inl rfl) e,c⟩
 | ins C dx fs =>
  obtain⟨d,z,ne,e,mA,⟨od,es,ep,e2,c⟩,r⟩:=x
  exact⟨ho _ d,z,ne,k _ _ (.inl rfl) e,mA,⟨od,es,ep,k _ _ (.inr d) e2,c⟩,r⟩
 | own y=>obtain⟨ob,e⟩:=x;exact⟨ob,k _ _ (.inl rfl) e⟩
 | xd fs=>obtain⟨mA,⟨od,es,ep,e,c⟩,r⟩:=x;exact⟨mA,⟨od,es,ep,k _ _ (.inl rfl) e,c⟩,r⟩
 | rng lo hi=>obtain⟨t,u,v,e⟩:=x;exact⟨t,u,v,k _ _ (.inl rfl) e⟩
 | frz ob u ih=>obtain⟨e,q⟩:=x;exact⟨k _ _ (.inl rfl) e,ih q⟩
 | tbl ps =>
  have e:h.get? a=Za { cls:=.none,data:=.fields ps }:=x
  show h'.get? a=Za { cls:=.none,data:=.fields ps }
  exact k a _ (.inl rfl) e
 | met f y =>
  have e:h.get? a=Za (W.methodObj (.ref f) (.ref y)):=x
  show h'.get? a=Za (W.methodObj (.ref f) (.ref y))
  exact k a _ (.inl rfl) e
 | ext φ=>obtain⟨p,⟨o,e⟩,st⟩:=x;exact⟨st _ _ p λ o q=>k _ _ (.inl rfl) q,⟨o,k _ _ (.inl rfl) e⟩,st⟩
theorem HOk.lt (x:HOk P w H h)(e:H a=Za o):a<h.objs.size:=(x a o e).lt
theorem HOk.fresh (x:HOk P w H h)(e:h.objs.size<=a):H a=Zc:=by
 cases q:H a with
 | none=>rfl
 | some u=>exact absurd (ZJ (x.lt q) e) (Zcq _)
theorem HOk.kept (x:HOk P w H h)(k:∀b u,h.get? b=Za u->h'.get? b=Za u):HOk P w H h':=λ a o e =>
 (x a o e).stay (λ b u _ q=>k b u q) (λ _ q=>q) λ _ _ q=>q
theorem HOk.laid (x:HOk P w H h)(k:∀b u,h.get? b=Za u->h'.get? b=Za u)(hp:h.objs.size<=a)(new:JG P w (upd H a o) h' a o):HOk P w (upd H a o) h':=λ b u e=>by
 have hn:=x.fresh hp
 by_cases hb:b=a
 ·subst hb;rw[J7] at e;cases e;exact new
 ·rw[Jq hb] at e
  exact(x b u e).stay (λ c v _ q=>k c v q) (λ c q=>by rw[Jq (Vj q hn)];exact q) λ c xs q=>by rw[Jq (Vj q hn)];exact q
end
def Rd (H:Hp)(a:Zp)(u:HO):Prop:=H a=Za u∨∃o,H a=Za (.frz o u)
theorem Rd.of {H:Hp}{a:Zp}{u:HO}(h:H a=Za u):Rd H a u:=.inl h
theorem Rd.ok {P:ZB}{w:Zab}{H:Hp}{h:Zax}{a:Zp}{u:HO}(r:Rd H a u)(x:HOk P w H h):JG P w H h a u:=by
 rcases r with r|⟨o,r⟩
 ·exact x a u r
 ·obtain⟨_,q⟩:=x a _ r
  exact q
def Mut:Option HO->Prop
 | some (.lst _)=>True
 | some (.dK _)=>True
 | some (.dT _)=>True
 | some (.set _ _)=>True
 | some (.ins _ _ _)=>True
 | some (.ext _)=>True
 | _=>False
section
variable {P:ZB}{w:Zab}{H:Hp}{h h':Zax}{x e:Zp}{o':HO}
theorem HOk.write (ok:HOk P w H h)(mu:Mut (H x))(he:e=x∨H e=Za (.own x))(k:∀b u,b≠e->h.get? b=Za u->h'.get? b=Za u)(heo:∃u,h'.get? e=Za u)
  (new:JG P w (upd H x o') h' x o'):HOk P w (upd H x o') h':=λ b u q=>by
 have nown:∀c y,H c=Za (.own y)->c≠x:=λ c y r z=>by subst z;rw[r] at mu;exact mu
 have ntup:∀c xs,H c=Za (.tup xs)->c≠x:=λ c xs r z=>by subst z;rw[r] at mu;exact mu
 by_cases hb:b=x
 ·subst hb;rw[J7] at q;cases q;exact new
 ·rw[Jq hb] at q
  by_cases hbe:b=e
  ·have q':H b=Za (.own x):=by
    rcases he with z|z
    ·exact absurd (hbe.trans z) hb
    ·rw[hbe];exact z
   rw[q] at q';cases q'
   obtain⟨v,hv⟩:=heo
   exact⟨v,by rw[hbe];exact hv⟩
  ·refine(ok b u q).stay (λ c v hc r=>k c v ?_ r) (λ c r=>by rw[Jq (nown c b r)];exact r) λ c xs r=>by rw[Jq (ntup c xs r)];exact r
   rcases hc with rfl|hc
   ·exact hbe
   ·rintro rfl
    rcases he with z|z
    ·exact nown c b hc z
    ·rw[hc] at z;cases z;exact hb rfl
end
structure Un (fs ex:List Zp)(H H':Hp)(h h':Zax):Prop where
 keep:∀b o,h.get? b=Za o->H b=Zc->b∉fs->b∉ex->h'.get? b=Za o
 slot:∀b o,h.get? b=Za o->H b=Zc->b∈fs->b∉ex->∃sl,h'.get? b=Za { o with slots:=sl }
 free:∀b o,h.get? b=Za o->H b=Zc->b∉ex->H' b=Zc
 there:∀b o,h.get? b=Za o->b∉ex->∃o',h'.get? b=Za o'
 tups:∀b xs,H b=Za (.tup xs)->H' b=Za (.tup xs)
 frzs:∀b o u,H b=Za (.frz o u)->H' b=Za (.frz o u)
 tbls:∀b ps,H b=Za (.tbl ps)->∃more,H' b=Za (.tbl (ps++more))
section
variable {fs fs' ex ex':List Zp}{H H1 H2:Hp}{h h1 h2 h':Zax}{a x e:Zp}{o:HO}
theorem Un.any (u:Un fs ex H H1 h h1){b:Zp}{ob:Obj}(q:h.get? b=Za ob)(n:H b=Zc)(hx:b∉ex):∃sl,h1.get? b=Za { ob with slots:=sl }:=by
 by_cases hb:b∈fs
 ·exact u.slot b ob q n hb hx
 ·exact⟨ob.slots,u.keep b ob q n hb hx⟩
theorem Un.kept (k:∀b u,h.get? b=Za u->h'.get? b=Za u):Un fs ex H H h h' :=
 ⟨λ b ob q _ _ _=>k b ob q,λ b ob q _ _ _=>⟨ob.slots,k b ob q⟩,λ _ _ _ n _=>n,λ b ob q _=>⟨ob,k b ob q⟩,λ _ _ q=>q,λ _ _ _ q=>q,λ _ ps q=>⟨#[],by rw[q];simp⟩⟩
theorem Un.refl:Un fs ex H H h h:=Un.kept λ _ _ q=>q
theorem Un.laid (k:∀b u,h.get? b=Za u->h'.get? b=Za u)(hp:h.objs.size<=a)(hn:H a=Zc):Un fs ex H (upd H a o) h h' where
 keep:=λ b u q _ _ _=>k b u q
 slot:=λ b u q _ _ _=>⟨u.slots,k b u q⟩
 free:=λ b u q n _=>by rw[Jq (Z8 (ZJ (Z0 q) hp))];exact n
 there:=λ b u q _=>⟨u,k b u q⟩
 tups:=λ b xs q=>by rw[Jq (Vj q hn)];exact q
 frzs:=λ b u xs q=>by rw[Jq (Vj q hn)];exact q
 tbls:=λ b ps q=>⟨#[],by rw[Jq (Vj q hn),q];simp⟩
theorem Un.write (mu:Mut (H x))(he:e=x∨H e=Za (.own x))(k:∀b u,b≠e->h.get? b=Za u->h'.get? b=Za u)(heo:∃u,h'.get? e=Za u):Un fs ex H (upd H x o) h h':=by
 have hx:∀b,H b=Zc->b≠x:=λ b n z=>by subst z;rw[n] at mu;exact mu
 have hb:∀b,H b=Zc->b≠e:=λ b n z=>by
  subst z
  rcases he with r|r
  ·exact hx b n r
  ·rw[n] at r;cases r
 have hm:∀b u,H b=Za u->¬Mut (Za u)->b≠x:=λ b u q nm z=>by subst z;rw[q] at mu;exact nm mu
 refine⟨λ b u q n _ _=>k b u (hb b n) q,λ b u q n _ _=>⟨u.slots,k b u (hb b n) q⟩,λ b u q n _=>by rw[Jq (hx b n)];exact n,λ b u q _=>?_,
  λ b xs q=>by rw[Jq (hm b _ q λ z=>z)];exact q,λ b u xs q=>by rw[Jq (hm b _ q λ z=>z)];exact q,λ b ps q=>⟨#[],by rw[Jq (hm b _ q λ z=>z),q];simp⟩⟩
 by_cases hbe:b=e
 ·subst hbe;exact heo
 ·exact⟨u,k b u hbe q⟩
end
def trk (h:Zax)(H:Hp):List Zp:=(ZT h.objs.size).filter λ a=>(H a).isSome
def hidT (h:Zax)(H:Hp):Zax:=W.hideAll h (trk h H)
theorem Jqj (h:Zax)(H:Hp):(hidT h H).objs.size=h.objs.size:=W.hideAll_size _ _
theorem Js2 {h:Zax}{H:Hp}{b:Zp}{o:Obj}(e:h.get? b=Za o)(n:H b=Zc):(hidT h H).get? b=Za o :=
 W.hideAll_get _ e λ hm=>by
  have q:(H b).isSome=Zh:=(Zau.mp hm).2
  rw[n] at q;simp at q
theorem Jxs {h:Zax}{H:Hp}{b:Zp}{o:Obj}(e:(hidT h H).get? b=Za o):h.get? b=Za o/\H b=Zc:=by
 have e':h.get? b=Za o:=W.of_hideAll (trk h H) e
 refine⟨e',?_⟩
 cases q:H b with
 | none=>rfl
 | some x =>
  have hm:b∈trk h H:=Zau.mpr ⟨Za3.mpr (Z0 e'),by simp[q]⟩
  have z:(hidT h H).get? b=Zc:=W.hideAll_none (trk h H) hm
  rw[z] at e;cases e
structure Mod (K:W.Frag)(mg:Str->Option Ze)(base:Zax):Prop where
 kin:K.In base
 glob:base.Ns Z2 mg
 blt:∃mb,base.Ns Zcz mb/\∀x:Str,x≠"__name__"->mb x=Zck x
 nolimit:base.NoLimit
structure Cx where
 prog:ZB
 w:Zab
 K:W.Frag
 mg:Str->Option Ze
 base:Zax
 A:ZN
 N:List Str
 s₀:Zm
 H₀:Hp
 env:Env
 outer:List Env
 stack:List Env
 ex:List Zp
 fn:Str->Bool
 calm:Bool
 pn:PnT
 xe:QvT
def frs (l:List Env):List Zp:=l.filterMap (·.frame)
abbrev Cx.fs (X:Cx):List Zp:=frs X.outer
def Vis (sc:Zbm)(x:Str):Prop:=sc.names.lookup x=Za .local∨sc.names.lookup x=Za .cell∨sc.names.lookup x=Za .free
def Loc (sc:Zbm)(x:Str):Prop:=sc.names.lookup x=Za .local∨sc.names.lookup x=Za .cell
def Look (env:Env)(h:Zax)(m:Str->Option Ze)(x:Str)(u:Ze):Prop :=
 (env.kindOf x=Za .local/\m x=Za u)∨((env.kindOf x=Za .cell∨env.kindOf x=Za .free)/\∃c,env.cells.lookup x=Za c/\h.IsCell c (Za u))
structure Cx.Ok (X:Cx):Prop where
 mod:Mod X.K X.mg X.base
 kind:X.env.scope.kind=.function
 glob:X.env.globals=Z2
 blt:X.env.builtins=Zcz
 above:X.s₀.heap.objs.size<=X.env.locals
 inj:∀x y c,X.env.cells.lookup x=Za c->X.env.cells.lookup y=Za c->x=y
 has:∀x,(X.env.kindOf x=Za .cell∨X.env.kindOf x=Za .free)->∃c,X.env.cells.lookup x=Za c
 cab:∀x c,X.fn x=Zh->X.env.cells.lookup x=Za c->X.s₀.heap.objs.size<=c
 hd:X.calm=Zh->X.A.handled=Zc
 frames:X.A.frames=Za X.stack
 stk:X.stack=X.outer∨(X.stack=X.env::X.outer/\X.env.frame=Za X.env.locals)
 exf:∀b∈X.ex,b≠X.env.locals/\∀x c,X.env.cells.lookup x=Za c->c≠b
 bs:∀b o,X.base.get? b=Za o->X.s₀.heap.get? b=Za o/\X.H₀ b=Zc
 bsz:X.base.objs.size<=X.s₀.heap.objs.size
 noex:∀b o,X.base.get? b=Za o->b∉X.ex
 exfs:∀b∈X.ex,b∉X.fs
 funs:X.s₀.heap.FunFrames X.base X.outer
 frf:∀b∈X.fs,X.H₀ b=Zc
structure Inv (X:Cx)(pj:PnT)(σ:List (Option V))(H:Hp)(s:Zm):Prop where
 ok:X.Ok
 os:s.os=X.s₀.os
 bare:Zdc s.gens
 base:Un X.fs X.ex X.H₀ H X.s₀.heap s.heap
 loc:∃m,s.heap.Ns X.env.locals m/\∀(i:Nat)(x:Str)(v:V),X.N[i]?=Za x->σ[i]?=Za (Za v)->Vis X.env.scope x->∃u,RelV v u/\Look X.env s.heap m x u
 cell:∀x c,X.env.cells.lookup x=Za c->∃v,s.heap.IsCell c v
 free:H X.env.locals=Zc
 freeC:∀x c,X.env.cells.lookup x=Za c->H c=Zc
 pin:∀p∈X.pn++pj,s.heap.get? p.1=Za p.2/\H p.1=Zc/\p.1≠X.env.locals/\p.1∉X.fs/\∀v,p.2.data≠.cell v
 hok:HOk X.prog X.w H s.heap
 len:σ.length=X.N.length
section
variable {X:Cx}{pj:PnT}{σ:List (Option V)}{H H':Hp}{s:Zm}{h':Zax}
theorem Cx.Ok.nofr (ok:X.Ok){b:Zp}{o:Obj}(e:X.base.get? b=Za o):b∉X.fs:=λ hb=>by
 have:=(ok.funs.mem hb).1
 rw[e] at this;cases this
theorem Inv.bs (I:Inv X pj σ H s):∀b o,X.base.get? b=Za o->s.heap.get? b=Za o/\H b=Zc:=λ b o e =>
 ⟨I.base.keep b o (I.ok.bs b o e).1 (I.ok.bs b o e).2 (I.ok.nofr e) (I.ok.noex b o e),I.base.free b o (I.ok.bs b o e).1 (I.ok.bs b o e).2 (I.ok.noex b o e)⟩
theorem Inv.bk (I:Inv X pj σ H s):∀b o,X.base.get? b=Za o->s.heap.get? b=Za o:=λ b o e=>(I.bs b o e).1
theorem Inv.mod (I:Inv X pj σ H s):Mod X.K X.mg X.base:=I.ok.mod
theorem Inv.kIn (I:Inv X pj σ H s):X.K.In s.heap:=I.ok.mod.kin.keeps I.bk
theorem Inv.lt (I:Inv X pj σ H s):X.env.locals<s.heap.objs.size:=let ⟨_,hn,_⟩:=I.loc;hn.lt
theorem Inv.sz (I:Inv X pj σ H s):X.s₀.heap.objs.size<=s.heap.objs.size:=ZZ I.ok.above (Zcl I.lt)
theorem Inv.nofs (I:Inv X pj σ H s){a:Zp}(h:s.heap.objs.size<=a):a∉X.fs:=λ hb=>by
 obtain⟨_,o,ho,_⟩:=I.ok.funs.mem hb
 exact absurd (ZJ (Z0 ho) (ZZ I.sz h)) (Zcq _)
theorem Inv.cne (I:Inv X pj σ H s):∀x c,X.env.cells.lookup x=Za c->c≠X.env.locals:=λ x c e z=>by
 obtain⟨v,o,ho,hd⟩:=I.cell x c e
 obtain⟨m,⟨o',es,ep,ho',hd',_⟩,_⟩:=I.loc
 rw[z,ho'] at ho;cases ho;rw[hd'] at hd;cases hd
theorem Inv.funs (I:Inv X pj σ H s):s.heap.FunFrames X.base X.outer:=by
 have all:∀(l:List Env),(∀b∈frs l,b∈X.fs)->X.s₀.heap.FunFrames X.base l->s.heap.FunFrames X.base l:=by
  intro l
  induction l with
  | nil=>intro _ _;trivial
  | cons env r ih =>
   intro hs hl
   obtain⟨hk,⟨L,o,hf,hn,ho,hd⟩,hr⟩:=hl
   have hL:L∈X.fs:=hs L (by unfold frs;rw[Zdb,hf];exact Z4)
   obtain⟨sl,e⟩:=I.base.slot L o ho (I.ok.frf L hL) hL λ z=>I.ok.exfs L z hL
   exact⟨hk,⟨L,_,hf,hn,e,hd⟩,ih (λ b hb=>hs b (by unfold frs;rw[Zdb,hf];exact Zn _ hb)) hr⟩
 exact all X.outer (λ _ hb=>hb) I.ok.funs
theorem Inv.stack (I:Inv X pj σ H s):s.heap.FunFrames X.base X.stack:=by
 rcases I.ok.stk with e|⟨e,hf⟩
 ·rw[e];exact I.funs
 ·rw[e]
  obtain⟨m,hn,_⟩:=I.loc
  refine .cons (by rw[I.ok.kind];decide) hf hn ?_ I.funs
  exact Heap.get?_none_of_le (ZZ I.ok.bsz I.ok.above)
theorem Inv.stkSub (I:Inv X pj σ H s):∀b∈frs X.stack,b∈X.env.locals::X.fs:=λ b hb=>by
 rcases I.ok.stk with e|⟨e,hf⟩
 ·rw[e] at hb;exact Zn _ hb
 ·rw[e] at hb
  unfold frs at hb
  rw[Zdb,hf] at hb
  exact hb
theorem Inv.stkFree (I:Inv X pj σ H s):∀b∈frs X.stack,H b=Zc:=λ b hb=>by
 rcases Z7.mp (I.stkSub b hb) with e|hb
 ·rw[e];exact I.free
 ·obtain⟨_,o,ho,_⟩:=I.ok.funs.mem hb
  exact I.base.free b o ho (I.ok.frf b hb) λ z=>I.ok.exfs b z hb
theorem Inv.step {g':Array Zey}{t':Nat}{d':Drawn}{ch:List Zp}(I:Inv X pj σ H s)
  (hch:∀b∈ch,(b∈X.ex∨X.s₀.heap.objs.size<=b)/\b≠X.env.locals/\(∀x c,X.env.cells.lookup x=Za c->c≠b)/\∀p∈X.pn++pj,p.1≠b)
  (keep:∀b o,b≠X.env.locals->b∉X.fs->b∉ch->s.heap.get? b=Za o->H b=Zc->h'.get? b=Za o)
  (slot:∀b o,b≠X.env.locals->b∈X.fs->b∉ch->s.heap.get? b=Za o->H b=Zc->∃sl,h'.get? b=Za { o with slots:=sl })(free:∀b o,b∉ch->s.heap.get? b=Za o->H b=Zc->H' b=Zc)
  (there:∀b o,b∉ch->s.heap.get? b=Za o->∃o',h'.get? b=Za o')
  (tups:∀b xs,H b=Za (.tup xs)->H' b=Za (.tup xs))(frzs:∀b o u,H b=Za (.frz o u)->H' b=Za (.frz o u))(tbls:∀b ps,H b=Za (.tbl ps)->∃more,H' b=Za (.tbl (ps++more)))
  (ns:∀m,s.heap.Ns X.env.locals m->h'.Ns X.env.locals m)(hok:HOk X.prog X.w H' h')(hg:Zdc g') :
  Inv X pj σ H' { s with heap:=h',gens:=g',drawn:=d',toks:=t' }:=by
 have neL:∀b o,X.s₀.heap.get? b=Za o->b≠X.env.locals:=λ b o e=>Z8 (ZJ (Z0 e) I.ok.above)
 have neC:∀b o,X.s₀.heap.get? b=Za o->b∉X.ex->b∉ch:=λ b o e hx hb=>by
  rcases(hch b hb).1 with z|z
  ·exact hx z
  ·exact absurd (ZJ (Z0 e) z) (Zcq _)
 have cellK:∀x c,X.env.cells.lookup x=Za c->∀v,s.heap.IsCell c v->h'.IsCell c v:=λ x c e v ⟨o,ho,hd⟩=>by
  have nch:c∉ch:=λ z=>(hch c z).2.2.1 x c e rfl
  by_cases hc:c∈X.fs
  ·obtain⟨sl,q⟩:=slot c o (I.cne x c e) hc nch ho (I.freeC x c e)
   exact⟨_,q,hd⟩
  ·exact⟨o,keep c o (I.cne x c e) hc nch ho (I.freeC x c e),hd⟩
 refine⟨I.ok,I.os,hg,⟨λ b o e n hb hx=>?_,λ b o e n hb hx=>?_,λ b o e n hx=>?_,λ b o e hx=>?_,λ b xs e=>tups b xs (I.base.tups b xs e),λ b o xs e=>frzs b o xs (I.base.frzs b o xs e),λ b ps e=>?_⟩,?_,λ x c e=>?_,?_,λ x c e=>?_,λ p hp=>?_,hok,I.len⟩
 ·exact keep b o (neL b o e) hb (neC b o e hx) (I.base.keep b o e n hb hx) (I.base.free b o e n hx)
 ·obtain⟨sl,e1⟩:=I.base.slot b o e n hb hx
  obtain⟨sl',e2⟩:=slot b _ (neL b o e) hb (neC b o e hx) e1 (I.base.free b o e n hx)
  exact⟨sl',e2⟩
 ·obtain⟨o',e1⟩:=I.base.there b o e hx
  exact free b o' (neC b o e hx) e1 (I.base.free b o e n hx)
 ·obtain⟨o',e1⟩:=I.base.there b o e hx
  exact there b o' (neC b o e hx) e1
 ·obtain⟨m1,e1⟩:=I.base.tbls b ps e
  obtain⟨m2,e2⟩:=tbls b _ e1
  exact⟨m1++m2,by rw[e2,Array.append_assoc]⟩
 ·obtain⟨m,hn,hl⟩:=I.loc
  refine⟨m,ns m hn,λ i x v e1 e2 e3=>?_⟩
  obtain⟨u,r,l⟩:=hl i x v e1 e2 e3
  refine⟨u,r,?_⟩
  rcases l with l|⟨k,c,e,z⟩
  ·exact .inl l
  ·exact .inr ⟨k,c,e,cellK x c e _ z⟩
 ·obtain⟨v,z⟩:=I.cell x c e
  exact⟨v,cellK x c e v z⟩
 ·obtain⟨m,⟨o,_,_,ho,_⟩,_⟩:=I.loc
  exact free _ o (λ z=>(hch _ z).2.1 rfl) ho I.free
 ·obtain⟨v,o,ho,hd⟩:=I.cell x c e
  exact free c o (λ z=>(hch c z).2.2.1 x c e rfl) ho (I.freeC x c e)
 ·obtain⟨e,n,ne,nf,d⟩:=I.pin p hp
  have nch:p.1∉ch:=λ z=>(hch p.1 z).2.2.2 p hp rfl
  exact⟨keep p.1 p.2 ne nf nch e n,free p.1 p.2 nch e n,ne,nf,d⟩
theorem Inv.un {t':Nat}(I:Inv X pj σ H s)(u:Un X.fs [] H H' s.heap h')(hok:HOk X.prog X.w H' h'):Inv X pj σ H' { s with heap:=h',toks:=t' }:=by
 obtain⟨m,⟨o,es,ep,ho,r⟩,_⟩:=id I.loc
 obtain⟨sl,hL⟩:=u.any ho I.free (by simp)
 exact I.step (g':=s.gens) (d':=s.drawn) (ch:=[]) (λ _ z=>nomatch z) (λ b o _ hb _ e n=>u.keep b o e n hb (by simp)) (λ b o _ hb _ e n=>u.slot b o e n hb (by simp)) (λ b o _ e n=>u.free b o e n (by simp)) (λ b o _ e=>u.there b o e (by simp)) u.tups u.frzs u.tbls (λ m' hm=>by
  obtain⟨o',es',ep',ho',r'⟩:=hm
  rw[ho] at ho';cases ho'
  exact⟨_,es',ep',hL,r'⟩) hok I.bare
theorem Inv.call {g':Array Zey}{t':Nat}{d':Drawn}{ch:List Zp}(I:Inv X pj σ H s)(u:Un (frs X.stack) ch H H' s.heap h')(hok:HOk X.prog X.w H' h')(hg:Zdc g')
  (hch:∀b∈ch,(b∈X.ex∨X.s₀.heap.objs.size<=b)/\b≠X.env.locals/\(∀x c,X.env.cells.lookup x=Za c->c≠b)/\∀p∈X.pn++pj,p.1≠b) :
  Inv X pj σ H' { s with heap:=h',gens:=g',drawn:=d',toks:=t' }:=by
 obtain⟨m,⟨o,es,ep,ho,r⟩,_⟩:=id I.loc
 obtain⟨sl,hL⟩:=u.any ho I.free λ z=>(hch _ z).2.1 rfl
 exact I.step (ch:=ch) hch (λ b o hL hb hc e n=>u.keep b o e n (λ z=>(Z7.mp (I.stkSub b z)).elim hL hb) hc) (λ b o _ _ hc e n=>u.any e n hc) (λ b o hc e n=>u.free b o e n hc) (λ b o hc e=>u.there b o e hc) u.tups u.frzs u.tbls (λ m' hm=>by
  obtain⟨o',es',ep',ho',r'⟩:=hm
  rw[ho] at ho';cases ho'
  exact⟨_,es',ep',hL,r'⟩) hok hg
theorem Inv.turned {t':Nat}{it:Zp}(I:Inv X pj σ H s)(k:∀b o,b≠it->s.heap.get? b=Za o->h'.get? b=Za o)(hn:H it=Zc)(hL:it≠X.env.locals)
  (h1:it∈X.ex∨X.s₀.heap.objs.size<=it)(h2:∀x c,X.env.cells.lookup x=Za c->c≠it)(h3:∀p∈X.pn++pj,p.1≠it):Inv X pj σ H { s with heap:=h',toks:=t' }:=by
 have nit:∀b u,H b=Za u->b≠it:=λ b u e z=>by rw[z,hn] at e;cases e
 refine I.step (g':=s.gens) (d':=s.drawn) (ch:=[it]) (λ b hb=>?_) (λ b o _ _ hc e _=>k b o (λ z=>hc (by simp[z])) e) (λ b o _ _ hc e _=>⟨o.slots,k b o (λ z=>hc (by simp[z])) e⟩) (λ _ _ _ _ n=>n)
  (λ b o hc e=>⟨o,k b o (λ z=>hc (by simp[z])) e⟩) (λ _ _ e=>e) (λ _ _ _ e=>e) (λ b ps e=>⟨#[],by rw[e];simp⟩) (λ m hm=>?_) (λ b u e=>?_) I.bare
 ·have e:b=it:=by simpa using hb
  subst e
  exact⟨h1,hL,h2,h3⟩
 ·obtain⟨o,es,ep,ho,r⟩:=hm
  exact⟨o,es,ep,k _ o (ZI hL) ho,r⟩
 ·refine(I.hok b u e).stay (λ c v hc q=>k c v ?_ q) (λ _ q=>q) λ _ _ q=>q
  rcases hc with z|z
  ·rw[z];exact nit b u e
  ·exact nit c _ z
theorem Inv.tok (I:Inv X pj σ H s)(t:Nat):Inv X pj σ H { s with toks:=t }:=I.un (h':=s.heap) (t':=t) Un.refl I.hok
theorem Inv.kept {t':Nat}(I:Inv X pj σ H s)(k:∀b u,s.heap.get? b=Za u->h'.get? b=Za u):Inv X pj σ H { s with heap:=h',toks:=t' }:=I.un (Un.kept k) (I.hok.kept k)
theorem Inv.laid {a:Zp}{o:HO}{t':Nat}(I:Inv X pj σ H s)(k:∀b u,s.heap.get? b=Za u->h'.get? b=Za u)(hp:s.heap.objs.size<=a)(new:JG X.prog X.w (upd H a o) h' a o) :
  Inv X pj σ (upd H a o) { s with heap:=h',toks:=t' }:=I.un (Un.laid k hp (I.hok.fresh hp)) (I.hok.laid k hp new)
theorem Inv.write {x e:Zp}{o:HO}{t':Nat}(I:Inv X pj σ H s)(mu:Mut (H x))(he:e=x∨H e=Za (.own x))(k:∀b u,b≠e->s.heap.get? b=Za u->h'.get? b=Za u)(heo:∃u,h'.get? e=Za u)
  (new:JG X.prog X.w (upd H x o) h' x o):Inv X pj σ (upd H x o) { s with heap:=h',toks:=t' }:=I.un (Un.write mu he k heo) (I.hok.write mu he k heo new)
theorem Inv.pins_of {pj':PnT}(I:Inv X pj σ H s)(h:∀p∈pj',s.heap.get? p.1=Za p.2/\H p.1=Zc/\p.1≠X.env.locals/\p.1∉X.fs/\∀v,p.2.data≠.cell v):Inv X pj' σ H s :=
 ⟨I.ok,I.os,I.bare,I.base,I.loc,I.cell,I.free,I.freeC,λ p hp=>(ZL.mp hp).elim (λ z=>I.pin p (Zah _ z)) (h p),I.hok,I.len⟩
theorem Jm9 {N:List Str}(hN:N.Nodup){i j:Nat}{x:Str}(a:N[i]?=Za x)(b:N[j]?=Za x):i=j:=by
 obtain⟨h1,e1⟩:=Zo.mp a
 obtain⟨h2,e2⟩:=Zo.mp b
 exact(ZcJ hN).mp (e1.trans e2.symm)
theorem Jrv {M:Model}{A:ZN}{E:QvT}{i:Nat}{x:Str}{v:V}{u:Ze}{Q:Unit->Zm->Prop}(I:Inv X pj σ H s)(hN:X.N.Nodup)(hi:X.N[i]?=Za x)(hx:Loc X.env.scope x)(r:RelV v u)
  (h:∀s',Inv X pj (σ.set i (Za v)) H s'->(∃a,Zc6 a s.heap s'.heap/\(a=X.env.locals∨X.env.cells.lookup x=Za a))->Q () s')(hf:X.fn x=Zh∨X.env.scope.names.lookup x=Za .local:=by assumption):Zy M A (storeName X.env x u) Q E s:=by
 obtain⟨m,hn,hl⟩:=id I.loc
 have hcls:(X.env.scope.kind==.class||(X.env.scope.kind==.module&&X.env.locals != X.env.globals))=Zk:=by rw[I.ok.kind];rfl
 have hiσ:i<σ.length:=by rw[I.len];exact(Zo.mp hi).1
 have cne:=I.cne
 have tracked:∀{a:Zp}{h':Zax},(∃o,s.heap.get? a=Za o/\H a=Zc)->Zc6 a s.heap h'->HOk X.prog X.w H h':=λ {a h'} ha hs b ob e=>by
  obtain⟨_,_,hfree⟩:=ha
  refine(I.hok b ob e).stay (λ c w' hc q=>(hs.2 c ?_).trans q) (λ _ q=>q) λ _ _ q=>q
  rintro rfl
  rcases hc with rfl|hc
  ·rw[hfree] at e;cases e
  ·rw[hfree] at hc;cases hc
 rcases hx with hk|hk
 ·refine wpAny_storeName_local hk hn (λ h' hn' hs=>?_) hcls
  obtain⟨oL,_,_,hoL,_⟩:=id hn
  refine h _ ⟨I.ok,I.os,I.bare,⟨λ b o e n hb hx=>?_,λ b o e n hb hx=>?_,I.base.free,λ b o e hx=>?_,I.base.tups,I.base.frzs,I.base.tbls⟩,⟨_,hn',λ j y v' e1 e2 e3=>?_⟩,λ y c e=>?_,I.free,I.freeC,λ p hp=>?_,tracked ⟨oL,hoL,I.free⟩ hs,by simpa using I.len⟩ ⟨_,hs,.inl rfl⟩
  ·exact(hs.2 b (Z8 (ZJ (Z0 e) I.ok.above))).trans (I.base.keep b o e n hb hx)
  ·obtain⟨sl,e1⟩:=I.base.slot b o e n hb hx
   exact⟨sl,(hs.2 b (Z8 (ZJ (Z0 e) I.ok.above))).trans e1⟩
  ·obtain⟨o',e1⟩:=I.base.there b o e hx
   exact⟨o',(hs.2 b (Z8 (ZJ (Z0 e) I.ok.above))).trans e1⟩
  ·by_cases hj:j=i
   ·subst hj
    rw[hi] at e1;cases e1
    rw[ZK hiσ] at e2
    cases e2
    exact⟨u,r,.inl ⟨hk,by simp⟩⟩
   ·rw[ZG (ZI hj)] at e2
    obtain⟨u',r',q⟩:=hl j y v' e1 e2 e3
    refine⟨u',r',?_⟩
    rcases q with⟨k,e⟩|⟨k,c,e,z⟩
    ·refine .inl ⟨k,?_⟩
     have:y≠x:=λ e=>hj (Jm9 hN e1 (e▸hi))
     simp[this,e]
    ·exact .inr ⟨k,c,e,z.sameBut hs (cne y c e)⟩
  ·obtain⟨w',z⟩:=I.cell y c e
   exact⟨w',z.sameBut hs (cne y c e)⟩
  ·obtain⟨e,n,ne,nf,d⟩:=I.pin p hp
   exact⟨(hs.2 p.1 ne).trans e,n,ne,nf,d⟩
 ·have hfn:X.fn x=Zh:=by
   rcases hf with z|z
   ·exact z
   ·rw[z] at hk;cases hk
  obtain⟨c,hc⟩:=I.ok.has x (.inl hk)
  obtain⟨w',z⟩:=I.cell x c hc
  refine wpAny_storeName_cell I.ok.kind hk hc z (λ h' hc' hs=>?_)
  obtain⟨oc,hoc,hocd⟩:=id z
  refine h { s with heap:=h' } ⟨I.ok,I.os,I.bare,⟨λ b o e n hb hx=>?_,λ b o e n hb hx=>?_,I.base.free,λ b o e hx=>?_,I.base.tups,I.base.frzs,I.base.tbls⟩,⟨m,hn.sameBut hs (ZI (cne x c hc)),λ j y v' e1 e2 e3=>?_⟩,λ y c' e=>?_,I.free,I.freeC,λ p hp=>?_,tracked ⟨oc,hoc,I.freeC x c hc⟩ hs,by simpa using I.len⟩ ⟨c,hs,.inr hc⟩
  ·exact(hs.2 b (Z8 (ZJ (Z0 e) (I.ok.cab x c hfn hc)))).trans (I.base.keep b o e n hb hx)
  ·obtain⟨sl,e1⟩:=I.base.slot b o e n hb hx
   exact⟨sl,(hs.2 b (Z8 (ZJ (Z0 e) (I.ok.cab x c hfn hc)))).trans e1⟩
  ·obtain⟨o',e1⟩:=I.base.there b o e hx
   exact⟨o',(hs.2 b (Z8 (ZJ (Z0 e) (I.ok.cab x c hfn hc)))).trans e1⟩
  ·by_cases hj:j=i
   ·subst hj
    rw[hi] at e1;cases e1
    rw[ZK hiσ] at e2
    cases e2
    exact⟨u,r,.inr ⟨.inl hk,c,hc,hc'⟩⟩
   ·rw[ZG (ZI hj)] at e2
    obtain⟨u',r',q⟩:=hl j y v' e1 e2 e3
    refine⟨u',r',?_⟩
    rcases q with q|⟨k,c',e,z'⟩
    ·exact .inl q
    ·refine .inr ⟨k,c',e,z'.sameBut hs ?_⟩
     rintro rfl
     exact hj (Jm9 hN e1 (I.ok.inj _ _ _ e hc▸hi))
  ·by_cases hcc:c'=c
   ·subst hcc;exact⟨_,hc'⟩
   ·obtain⟨w2,z2⟩:=I.cell y c' e
    exact⟨w2,z2.sameBut hs hcc⟩
  ·obtain⟨e,n,ne,nf,d⟩:=I.pin p hp
   refine⟨(hs.2 p.1 ?_).trans e,n,ne,nf,d⟩
   intro q
   rw[q,hoc] at e
   have q':oc=p.2:=Zao e
   exact d w' (by rw[<- q'];exact hocd)
theorem Jgf {M:Model}{A:ZN}{E:QvT}{i:Nat}{x:Str}{v:V}{u:Ze}{Q:Unit->Zm->Prop}(I:Inv X pj σ H s)(hN:X.N.Nodup)(hi:X.N[i]?=Za x)(hx:Loc X.env.scope x)(r:RelV v u)
  (h:∀s',Inv X pj (σ.set i (Za v)) H s'->Q () s')(hf:X.fn x=Zh∨X.env.scope.names.lookup x=Za .local:=by assumption):Zy M A (storeName X.env x u) Q E s :=
 Jrv I hN hi hx r (λ s' I' _=>h s' I') hf
theorem Inv.call' {s':Zm}{ch:List Zp}(I:Inv X pj σ H s)(ho:s'.os=s.os)(u:Un (frs X.stack) ch H H' s.heap s'.heap)(hok:HOk X.prog X.w H' s'.heap)(hg:Zdc s'.gens)
  (hch:∀b∈ch,(b∈X.ex∨X.s₀.heap.objs.size<=b)/\b≠X.env.locals/\(∀x c,X.env.cells.lookup x=Za c->c≠b)/\∀p∈X.pn++pj,p.1≠b):Inv X pj σ H' s':=by
 obtain⟨h',g',d',t',o'⟩:=s'
 have e:o'=s.os:=ho
 subst e
 exact I.call (g':=g') (t':=t') (d':=d') u hok hg hch
end
abbrev XK:=Ze->Option Zp->Hp->Prop
abbrev St:=List (Option V)
abbrev VK:=V->Hp->Prop
abbrev TE:=St->Hp->VK->Prop
abbrev TT:=St->Hp->(Bool->Hp->Prop)->Prop
abbrev TA:=St->Hp->(List V->Hp->Prop)->Prop
structure Ends where
 nx:St->Hp->Prop
 rt:VK
 bk:St->Hp->Prop:=λ _ _=>False
 ct:St->Hp->Prop:=λ _ _=>False
abbrev TS:=Ends->St->Hp->Prop
def EP (X:Cx)(pj:PnT)(σ:St)(Q:VK)(u:Ze)(s':Zm):Prop:=∃v H',Inv X pj σ H' s'/\RelV v u/\Q v H'
def TP (X:Cx)(pj:PnT)(σ:St)(Q:Bool->Hp->Prop)(b:Bool)(s':Zm):Prop:=∃H',Inv X pj σ H' s'/\Q b H'
def SP (X:Cx)(pj:PnT)(D:Ends)(f:Flow)(s':Zm):Prop :=
 match f with
 | .next=>∃σ' H',Inv X pj σ' H' s'/\D.nx σ' H'
 | .brk=>∃σ' H',Inv X pj σ' H' s'/\D.bk σ' H'
 | .cont=>∃σ' H',Inv X pj σ' H' s'/\D.ct σ' H'
 | .ret u=>∃v σ' H',Inv X pj σ' H' s'/\RelV v u/\D.rt v H'
def PE (X:Cx)(e:Expr)(t:TE):Prop :=
 ∀(pj:PnT)(s:Zm)(σ:St)(H:Hp)(Q:VK),Inv X pj σ H s->t σ H Q->Zy (Z9 X.prog X.w) X.A (ZaY e X.env) (EP X pj σ Q) X.xe s
def PSs (X:Cx)(st:List Zdh)(t:TS):Prop :=
 ∀(pj:PnT)(s:Zm)(σ:St)(H:Hp)(D:Ends),Inv X pj σ H s->t D σ H->Zy (Z9 X.prog X.w) X.A (execs st X.env) (SP X pj D) X.xe s
theorem thn {α:Type}{t:Sem α}{Q Q':α->Zm->Prop}{M:Model}{A:ZN}{E:QvT}{s:Zm}(h:Zy M A t Q E s)(hQ:∀a s,Q a s->Q' a s):Zy M A t Q' E s:=Zap h hQ λ _ _ x=>x
section
variable {X:Cx}
def tVar (i:Nat):TE:=λ σ H Q=>∃v,σ[i]?=Za (Za v)/\Q v H
def tC (v:V):TE:=λ _ H Q=>Q v H
theorem J0u {i:Nat}{x:Str}{pos:Pos}(hN:X.N[i]?=Za x)(hv:Vis X.env.scope x)(hd:(x==("__debug__":Str))=Zk:=by decide)(hcd:(x==("__classdict__":Str))=Zk:=by decide):PE X (.Name x pos) (tVar i):=by
 intro pj s σ H Q I h
 obtain⟨v,e,h⟩:=h
 obtain⟨m,hn,hl⟩:=I.loc
 obtain⟨u,r,l⟩:=hl i x v hN e hv
 have fin:EP X pj σ Q u s:=⟨v,H,I,r,h⟩
 rcases l with⟨hk,hm⟩|⟨hk,c,hc,hcell⟩
 ·exact wpAny_Name (wpAny_loadName_local I.ok.kind hk hn hm fin) hd
 ·rcases hk with hk|hk
  ·exact wpAny_Name (wpAny_loadName_cell I.ok.kind hk hc hcell fin) hd
  ·exact wpAny_Name (wpAny_loadName_free I.ok.kind hk hc hcell fin hcd) hd
theorem J0r {i j pos}:PE X (.Constant (.int i) j pos) (tC (.int i)):=λ _ _ _ H _ I h=>wpAny_Constant_int ⟨.int i,H,I.tok _,⟨_,rfl⟩,h⟩
theorem J20 {b j pos}:PE X (.Constant (.bool b) j pos) (tC (.bl b)):=λ _ _ _ H _ I h=>Constant_bool ⟨.bl b,H,I,rfl,h⟩
theorem J0s {j pos}:PE X (.Constant .none j pos) (tC .non):=λ _ _ _ H _ I h=>Constant_none ⟨.non,H,I,rfl,h⟩
theorem J0t {x j pos}:PE X (.Constant (.str x) j pos) (tC (.str x)):=λ _ _ _ H _ I h=>Calls.Constant_str ⟨.str x,H,I.tok _,⟨_,rfl⟩,h⟩
def Gl (X:Cx)(x:Str):Prop:=X.env.kindOf x=Za .globalImplicit
theorem VX {E:QvT}{pj:PnT}{s:Zm}{σ:St}{H:Hp}{x:Str}{u:Ze}{pos:Pos}{Q:QvT}(I:Inv X pj σ H s)(hg:Gl X x)(hm:X.mg x=Za u)(h:Q u s)
  (hd:(x==("__debug__":Str))=Zk:=by decide):Zy (Z9 X.prog X.w) X.A (ZaY (.Name x pos) X.env) Q E s :=
 Zdi I.ok.kind hg (Calls.loadGlobal_global (by rw[I.ok.glob];exact I.mod.glob.keeps I.bk) hm h) hd
theorem Qr {E:QvT}{pj:PnT}{s:Zm}{σ:St}{H:Hp}{x:Str}{u:Ze}{pos:Pos}{Q:QvT}(I:Inv X pj σ H s)(hg:Gl X x)(hm:X.mg x=Zc)(hv:Zck x=Za u)(h:Q u s)
  (hn:x≠"__name__":=by decide)(hd:(x==("__debug__":Str))=Zk:=by decide):Zy (Z9 X.prog X.w) X.A (ZaY (.Name x pos) X.env) Q E s:=by
 obtain⟨mb,h1,h2⟩:=I.mod.blt
 exact Zdi I.ok.kind hg (Calls.loadGlobal_builtin (by rw[I.ok.glob];exact I.mod.glob.keeps I.bk) hm (by rw[I.ok.blt];exact h1.keeps I.bk) ((h2 x hn).trans hv) h) hd
theorem Jxw {x:Str}{v:V}{u:Ze}{pos:Pos}(hg:Gl X x)(hm:X.mg x=Za u)(r:RelV v u)(hd:(x==("__debug__":Str))=Zk:=by decide):PE X (.Name x pos) (tC v) :=
 λ _ _ _ H _ I h=>VX I hg hm ⟨v,H,I,r,h⟩ hd
variable {a b:Expr}{ta tb:TE}{pos:Pos}
variable {tA tB':TT}{rest:List Expr}
end
def SqL (K:W.Frag)(H:Hp)(a:Zp)(xs:List V):Prop :=
 Rd H a (.lst xs) ∨
  ∃(o:Obj) (its:Array Ze) (n:Nat),K.lookup a=Za o/\o.cls=.type "list"/\o.dict=Zc/\o.data=.seq its n/\its.size<=sizeLine/\Vals xs its.toList
def SqT (K:W.Frag)(H:Hp)(a:Zp)(xs:List V):Prop :=
 Rd H a (.tup xs) ∨
  ∃(o:Obj) (its:Array Ze) (n:Nat),K.lookup a=Za o/\o.cls=.type "tuple"/\o.data=.seq its n/\its.size<=sizeLine/\Vals xs its.toList
def absV:Ze->Option V
 | .none=>Za .non
 | .bool b=>Za (.bl b)
 | .int i _=>Za (.int i)
 | .str x _=>Za (.str x)
 | .bytes b _=>Za (.byt b)
 | .float b _=>Za (.flt b)
 | .ref a=>Za (.ref a)
 | .type n=>Za (.ty n)
 | _=>Zc
theorem RelV.abs {x:V}{u:Ze}(r:RelV x u):absV u=Za x:=by
 cases x with
 | non=>cases r;rfl
 | bl _=>cases r;rfl
 | int _=>obtain⟨t,rfl⟩:=r;rfl
 | str _=>obtain⟨t,rfl⟩:=r;rfl
 | byt _=>obtain⟨t,rfl⟩:=r;rfl
 | flt _=>obtain⟨t,rfl⟩:=r;rfl
 | ref _=>cases r;rfl
 | ty _=>cases r;rfl
theorem RelV.inj {x y:V}{u:Ze}(r:RelV x u)(q:RelV y u):x=y:=Zao (r.abs.symm.trans q.abs)
theorem Vals.inj:∀{xs ys:List V}{us:List Ze},Vals xs us->Vals ys us->xs=ys
 | _,_,_,.nil,.nil=>rfl
 | _,_,_,.cons r t,.cons r' t'=>by rw[r.inj r',Vals.inj t t']
section
variable {X:Cx}{pj:PnT}{σ:St}{H:Hp}{s:Zm}{a:Zp}{xs ys:List V}
theorem SqL.of {K:W.Frag}(h:H a=Za (.lst xs)):SqL K H a xs:=.inl (.inl h)
theorem SqT.of {K:W.Frag}(h:H a=Za (.tup xs)):SqT K H a xs:=.inl (.inl h)
theorem Inv.list (I:Inv X pj σ H s)(h:SqL X.K H a xs):∃its:List Ze,Vals xs its/\PlainL s.heap a its.toArray/\xs.length<=sizeLine:=by
 rcases h with h|⟨o,its,n,hk,hc,hd,hs,hz,r⟩
 ·obtain⟨z,its,n,r,e⟩:=h.ok I.hok
  exact⟨its,r,⟨_,n,e,rfl,rfl,rfl⟩,z⟩
 ·refine⟨its.toList,r,⟨o,n,I.kIn a o hk,hc,hd,by simpa using hs⟩,?_⟩
  have e:=r.length
  simp only[Zbf] at e
  omega
theorem Inv.tuple (I:Inv X pj σ H s)(h:SqT X.K H a xs):∃its:List Ze,Vals xs its/\IsTup s.heap a its.toArray/\xs.length<=sizeLine:=by
 rcases h with h|⟨o,its,n,hk,hc,hs,hz,r⟩
 ·obtain⟨z,its,r,p⟩:=h.ok I.hok
  exact⟨its,r,p,z⟩
 ·refine⟨its.toList,r,⟨o,I.kIn a o hk,hc,n,by simpa using hs⟩,?_⟩
  have e:=r.length
  simp only[Zbf] at e
  omega
theorem Inv.list_inj (I:Inv X pj σ H s)(h:SqL X.K H a xs)(h':SqL X.K H a ys):xs=ys:=by
 obtain⟨its,r,⟨o,n,e,_,_,d⟩,_⟩:=I.list h
 obtain⟨its',r',⟨o',n',e',_,_,d'⟩,_⟩:=I.list h'
 rw[e] at e';cases e'
 rw[d] at d'
 injection d' with d1 _
 have:its=its':=by simpa using congrArg Array.toList d1
 subst this
 exact r.inj r'
theorem Inv.tuple_inj (I:Inv X pj σ H s)(h:SqT X.K H a xs)(h':SqT X.K H a ys):xs=ys:=by
 obtain⟨its,r,⟨o,e,_,n,d⟩,_⟩:=I.tuple h
 obtain⟨its',r',⟨o',e',_,n',d'⟩,_⟩:=I.tuple h'
 rw[e] at e';cases e'
 rw[d] at d'
 injection d' with d1 _
 have:its=its':=by simpa using congrArg Array.toList d1
 subst this
 exact r.inj r'
end
abbrev Cx.wish (X:Cx)(E:QvT):Cx:={ X with xe:=E }
abbrev Cx.nox (X:Cx):Cx:=X.wish λ _ _=>False
theorem Cx.Ok.wish {X:Cx}(ok:X.Ok)(E:QvT):(X.wish E).Ok :=
 ⟨ok.mod,ok.kind,ok.glob,ok.blt,ok.above,ok.inj,ok.has,ok.cab,ok.hd,ok.frames,ok.stk,ok.exf,ok.bs,ok.bsz,ok.noex,ok.exfs,ok.funs,ok.frf⟩
theorem Cx.Ok.unwish {X:Cx}{E:QvT}(ok:(X.wish E).Ok):X.Ok :=
 ⟨ok.mod,ok.kind,ok.glob,ok.blt,ok.above,ok.inj,ok.has,ok.cab,ok.hd,ok.frames,ok.stk,ok.exf,ok.bs,ok.bsz,ok.noex,ok.exfs,ok.funs,ok.frf⟩
section
variable {X:Cx}{pj:PnT}{σ:St}{H:Hp}{s:Zm}{E:QvT}
theorem Inv.wish (I:Inv X pj σ H s)(E:QvT):Inv (X.wish E) pj σ H s:=⟨I.ok.wish E,I.os,I.bare,I.base,I.loc,I.cell,I.free,I.freeC,I.pin,I.hok,I.len⟩
theorem Inv.unwish (I:Inv (X.wish E) pj σ H s):Inv X pj σ H s:=⟨I.ok.unwish,I.os,I.bare,I.base,I.loc,I.cell,I.free,I.freeC,I.pin,I.hok,I.len⟩
end
section
variable {X:Cx}{st:Zdh}{rest:List Zdh}{t u:TS}{e:Expr}{te:TE}{pos:Pos}
theorem Inv.quiet {pj:PnT}{σ:St}{H:Hp}{s:Zm}(I:Inv X pj σ H s):interactive X.env=Zk:=by simp[interactive,I.ok.kind]
end
abbrev TSet:=V->V->V->Hp->(Hp->Prop)->Prop
def PSet (X:Cx)(t:TSet):Prop :=
 ∀(pj:PnT)(s:Zm)(σ:St)(H:Hp)(o i v:V)(ov iv u:Ze)(Q:Hp->Prop),Inv X pj σ H s->RelV o ov->RelV i iv->RelV v u->t o i v H Q ->
  Zy (Z9 X.prog X.w) X.A (setItem ov iv u) (λ _ s'=>∃H',Inv X pj σ H' s'/\Q H') X.xe s
section
variable {X:Cx}{pos:Pos}
end
structure It where
 go:Nat->Hp->Prop
 yld:Nat->Hp->V->Hp->Prop
 stop:Nat->Hp->Prop
def FpOk (X:Cx)(pj:PnT)(H:Hp)(b:Zp):Prop :=
 H b=Zc/\b≠X.env.locals/\b∉X.fs/\(b∈X.ex∨X.s₀.heap.objs.size<=b)/\(∀x c,X.env.cells.lookup x=Za c->c≠b)/\∀p∈X.pn++pj,p.1≠b
theorem Inv.fpOk {X:Cx}{pj:PnT}{σ:St}{H H':Hp}{s:Zm}{b:Zp}(I:Inv X pj σ H s)(hb:s.heap.objs.size<=b)(hn:H' b=Zc):FpOk X pj H' b:=by
 refine⟨hn,ZaQ (ZJ I.lt hb),I.nofs hb,.inr (ZZ I.sz hb),λ x c e z=>?_,λ p hp z=>?_⟩
 ·obtain⟨v,q⟩:=I.cell x c e
  exact absurd (ZJ q.lt (by rw[z];exact hb)) (Zcq _)
 ·exact absurd (ZJ (Z0 (I.pin p hp).1) (by rw[z];exact hb)) (Zcq _)
structure Turn (P:ZB)(w:Zab)(K:W.Frag)(tg:Expr)(J:It)(fp:List Zp)(it:Zp)(tn:Nat->Zax->Prop):Prop where
 mem:it∈fp
 obj:∀i h,tn i h->∀b∈fp,∃o,h.get? b=Za o/\∀v,o.data≠.cell v
 keep:∀i h h',tn i h->(∀b∈fp,∀o,h.get? b=Za o->h'.get? b=Za o)->tn i h'
 item:∀(X:Cx),X.prog=P->X.w=w->X.K=K->X.calm=Zh->∀(i:Nat)(pj:PnT)(s:Zm)(σ:St)(H:Hp)(E:QvT),Inv X pj σ H s->(∀b∈fp,FpOk X pj H b)->tn i s.heap->J.go i H ->
  Zy (Z9 P w) X.A (ZbG (.ref it)) (λ r s1=>∃u,r=Za u /\
   Zy (Z9 P w) X.A (Zct tg (.ref it) u) (λ _ s2=>∃x H',Inv X pj σ H' s2/\RelV x u/\J.yld i H x H'/\tn (i+1) s2.heap/\∀b∈fp,H' b=Zc) E s1) E s
 done:∀(X:Cx),X.prog=P->X.w=w->X.K=K->X.calm=Zh->∀(i:Nat)(pj:PnT)(s:Zm)(σ:St)(H:Hp)(E:QvT),Inv X pj σ H s->(∀b∈fp,FpOk X pj H b)->tn i s.heap->J.stop i H ->
  Zy (Z9 P w) X.A (ZbG (.ref it)) (λ r s1=>r=Zc/\Inv X pj σ H s1) E s
 self:∀(A:ZN)(i:Nat)(s:Zm)(Q:QvT)(E:QvT),tn i s.heap->Q (.ref it) s->Zy (Z9 P w) A (Zeu (.ref it)) Q E s
def PIE (X:Cx)(pj:PnT)(σ:St)(tg:Expr)(R:It->Hp->Prop)(itv:Ze)(s2:Zm):Prop :=
 ∃(it:Zp)(fp:List Zp)(tn:Nat->Zax->Prop)(J:It)(H':Hp),itv=.ref it/\Inv X pj σ H' s2/\Turn X.prog X.w X.K tg J fp it tn/\tn 0 s2.heap/\(∀b∈fp,FpOk X pj H' b)/\R J H'
theorem Js0 {M:Model}{A:ZN}{E:QvT}{s:Zm}{tg:Expr}{it:Zp}{u:Ze}{o:Obj}{n:String}{vs:Array Ze}{Q:Unit->Zm->Prop}(ho:s.heap.get? it=Za o)(hc:o.cls=.type n)(hd:o.data=.fields vs)
  (hn:["enumerate","zip","dict_itemiterator","dict_reverseitemiterator","odict_iterator","itertools.zip_longest","itertools.pairwise"].contains n=Zk)(hQ:Q () s):Zy M A (Zct tg (.ref it) u) Q E s:=by
 unfold Zct
 cases tg<;>first
  | exact Zw hQ
  | (cases u<;>first
    | exact Zw hQ
    | (refine Zd (wpAny_load ho ?_)
       rw[hc,hd]
       show Zy M A (if (["enumerate","zip","dict_itemiterator","dict_reverseitemiterator","odict_iterator","itertools.zip_longest","itertools.pairwise"].contains n&&vs[0]?==Za (ZbS _))=Zh then _ else _) Q E s
       rw[if_neg (by intro h;rw[hn,Bool.false_and] at h;cases h)]
       exact Zw hQ))
def Itl (K:W.Frag)(a:Zp):It :=
 ⟨λ i H=>∃xs x,SqL K H a xs/\xs[i]?=Za x,λ i H x H'=>H'=H/\∀xs,SqL K H a xs->xs[i]?=Za x,λ i H=>∃xs,SqL K H a xs/\xs.length<=i⟩
def Itt (K:W.Frag)(a:Zp):It :=
 ⟨λ i H=>∃xs x,SqT K H a xs/\xs[i]?=Za x,λ i H x H'=>H'=H/\∀xs,SqT K H a xs->xs[i]?=Za x,λ i H=>∃xs,SqT K H a xs/\xs.length<=i⟩
def Itr (lo:Int)(n:Nat):It:=⟨λ i _=>i<n,λ i H x H'=>H'=H/\x=.int (lo+i),λ i _=>n<=i⟩
theorem Jlw {P:ZB}{w:Zab}{K:W.Frag}{tg:Expr}(a it:Zp):Turn P w K tg (Itl K a) [it] it (λ i h=>h.IsListIter it a i) where
 mem:=by simp
 obj:=λ i h st b hb=>by
  have e:b=it:=by simpa using hb
  subst e
  obtain⟨o,e,c,d⟩:=st
  exact⟨o,e,λ v z=>by rw[d] at z;cases z⟩
 keep:=λ i h h' st k=>st.at λ o e=>k it (by simp) o e
 item:=by
  intro X hP hw hK hc i pj s σ H E I hf st hg
  subst hP hw hK
  obtain⟨xs,x,hq,hx⟩:=hg
  obtain⟨its,rv,p,hz⟩:=I.list hq
  obtain⟨u,hu,ru⟩:=rv.get hx
  obtain⟨f0,f1,f2,f3,f4,f5⟩:=hf it (by simp)
  refine ZdJ st p.isList (x:=u) (by simpa using hu) λ h' st' sb=>?_
  have I1:Inv X pj σ H { s with heap:=h' }:=I.turned (t':=s.toks) (λ b o hb e=>(sb.2 b hb).trans e) f0 f1 f3 f4 f5
  obtain⟨o,e,c,d⟩:=id st'
  exact⟨u,rfl,Js0 (s:={ s with heap:=h' }) e c d (by decide) ⟨x,H,I1,ru,⟨rfl,λ ys hy=>by rw[I.list_inj hy hq];exact hx⟩,st',λ b hb=>(hf b hb).1⟩⟩
 done:=by
  intro X hP hw hK hc i pj s σ H E I hf st hg
  subst hP hw hK
  obtain⟨xs,hq,hx⟩:=hg
  obtain⟨its,rv,p,hz⟩:=I.list hq
  obtain⟨f0,f1,f2,f3,f4,f5⟩:=hf it (by simp)
  have hl:=rv.length
  exact ZdU (I.ok.hd hc) st p.isList (by simp;omega) λ h' eb=>⟨rfl,I.turned (t':=s.toks) (λ b o hb e=>eb b o hb e) f0 f1 f3 f4 f5⟩
 self:=λ _ _ _ _ _ st h=>wpAny_pyIter_listiter st h
theorem Jpg {P:ZB}{w:Zab}{K:W.Frag}{tg:Expr}(a it:Zp):Turn P w K tg (Itt K a) [it] it (λ i h=>h.IsTupleIter it a i) where
 mem:=by simp
 obj:=λ i h st b hb=>by
  have e:b=it:=by simpa using hb
  subst e
  obtain⟨o,e,c,d⟩:=st
  exact⟨o,e,λ v z=>by rw[d] at z;cases z⟩
 keep:=λ i h h' st k=>st.at λ o e=>k it (by simp) o e
 item:=by
  intro X hP hw hK hc i pj s σ H E I hf st hg
  subst hP hw hK
  obtain⟨xs,x,hq,hx⟩:=hg
  obtain⟨its,rv,p,hz⟩:=I.tuple hq
  obtain⟨u,hu,ru⟩:=rv.get hx
  obtain⟨f0,f1,f2,f3,f4,f5⟩:=hf it (by simp)
  refine wpAny_pyNext_tuple_item st (show s.heap.IsTuple a its.toArray from p) (x:=u) (by simpa using hu) λ h' st' sb=>?_
  have I1:Inv X pj σ H { s with heap:=h' }:=I.turned (t':=s.toks) (λ b o hb e=>(sb.2 b hb).trans e) f0 f1 f3 f4 f5
  obtain⟨o,e,c,d⟩:=id st'
  exact⟨u,rfl,Js0 (s:={ s with heap:=h' }) e c d (by decide) ⟨x,H,I1,ru,⟨rfl,λ ys hy=>by rw[I.tuple_inj hy hq];exact hx⟩,st',λ b hb=>(hf b hb).1⟩⟩
 done:=by
  intro X hP hw hK hc i pj s σ H E I hf st hg
  subst hP hw hK
  obtain⟨xs,hq,hx⟩:=hg
  obtain⟨its,rv,p,hz⟩:=I.tuple hq
  obtain⟨f0,f1,f2,f3,f4,f5⟩:=hf it (by simp)
  have hl:=rv.length
  exact wpAny_pyNext_tuple_end (I.ok.hd hc) st (show s.heap.IsTuple a its.toArray from p) (by simp;omega) λ h' eb=>⟨rfl,I.turned (t':=s.toks) (λ b o hb e=>eb b o hb e) f0 f1 f3 f4 f5⟩
 self:=λ _ _ _ _ _ st h=>wpAny_pyIter_tupleiter st h
theorem Jpf {P:ZB}{w:Zab}{K:W.Frag}{tg:Expr}(it:Zp)(lo:Int)(n:Nat):Turn P w K tg (Itr lo n) [it] it (λ i h=>IsRangeIter h it (lo+(i:Nat)*1) ((n:Int)-(i:Nat)) 1) where
 mem:=by simp
 obj:=λ i h st b hb=>by
  have e:b=it:=by simpa using hb
  subst e
  exact⟨_,st,λ v z=>by
   have z':Data.fields _=Ze7 v:=z
   cases z'⟩
 keep:=λ i h h' st k=>k it (by simp) _ st
 item:=by
  intro X hP hw hK hc i pj s σ H E I hf st hg
  subst hP hw hK
  obtain⟨f0,f1,f2,f3,f4,f5⟩:=hf it (by simp)
  have W:=Walks.range (prog:=X.prog) (w:=X.w) (I.ok.hd hc) it lo 1 n
  refine W.item i s _ _ hg st λ v h' tk hv st' kk=>?_
  obtain⟨t,rfl⟩:=hv
  have I1:Inv X pj σ H { s with heap:=h',toks:=tk }:=I.turned (λ b o hb e=>kk b o (by simpa using hb) e) f0 f1 f3 f4 f5
  refine⟨_,rfl,Js0 (s:={ s with heap:=h',toks:=tk }) (n:="range_iterator") st' rfl rfl (by decide) ⟨.int (lo+i),H,I1,⟨t,?_⟩,⟨rfl,rfl⟩,st',λ b hb=>(hf b hb).1⟩⟩
  rw[Int.mul_one]
 done:=by
  intro X hP hw hK hc i pj s σ H E I hf st hg
  subst hP hw hK
  obtain⟨f0,f1,f2,f3,f4,f5⟩:=hf it (by simp)
  exact wpAny_pyNext_range_end (I.ok.hd hc) st (by have:n<=i:=hg;omega) λ h' eb=>⟨rfl,I.turned (t':=s.toks) (λ b o hb e=>eb b o hb e) f0 f1 f3 f4 f5⟩
 self:=λ _ _ _ _ _ st h=>wpAny_pyIter_rangeiter st h
section
variable {X:Cx}{tg:Expr}
theorem Jt0 {pj:PnT}{σ:St}{H:Hp}{s:Zm}{R:It->Hp->Prop}{E:QvT}{lo hi:Int}{t u v:Tok}{tk:Nat}(I:Inv X pj σ H s)(h1: -(2^62)<=lo)(h2:lo<2^62)(h3: -(2^62)<=hi)(h4:hi<2^62)
  (q:R (Itr lo (hi-lo).toNat) H):Zy (Z9 X.prog X.w) X.A (Zeu (.ref s.heap.objs.size)) (PIE X pj σ tg R) E { s with heap:=s.heap.push { cls:=.type "range",data:=.fields #[.int lo t,.int hi u,.int 1 v] },toks:=tk }:=by
 refine wpAny_pyIter_range (IsRange.new ..) (small_one h1 h2 h3 h4) ?_
 have I1:Inv X pj σ H { s with heap:=s.heap.push { cls:=.type "range",data:=.fields #[.int lo t,.int hi u,.int 1 v] },toks:=tk }:=I.kept λ b o e=>Zg _ e
 refine⟨(s.heap.push { cls:=.type "range",data:=.fields #[.int lo t,.int hi u,.int 1 v] }).objs.size,[(s.heap.push { cls:=.type "range",data:=.fields #[.int lo t,.int hi u,.int 1 v] }).objs.size],_,_,H,rfl,
  I1.kept (t':=tk) λ b o e=>Zg _ e,Jpf _ lo (hi-lo).toNat,?_,λ b hb=>?_,q⟩
 ·have e1:lo+((0:Nat):Int)*1=lo:=by simp
  have e2:(((hi-lo).toNat:Nat):Int)-((0:Nat):Int)=Zd3 lo hi 1:=by rw[rangeSize_one];split<;>omega
  show IsRangeIter _ _ (lo+((0:Nat):Int)*1) ((((hi-lo).toNat:Nat):Int)-((0:Nat):Int)) 1
  rw[e1,e2]
  exact Zz _ rfl
 ·have e:b=(s.heap.push { cls:=.type "range",data:=.fields #[.int lo t,.int hi u,.int 1 v] }).objs.size:=by simpa using hb
  subst e
  exact I1.fpOk (Zq _) (I1.hok.fresh (Zq _))
def QG (fp:List Zp)(h:Zax):PnT:=fp.filterMap λ b=>(h.get? b).map λ o=>(b,o)
theorem Ys {fp:List Zp}{h:Zax}{b:Zp}{o:Obj}(hb:b∈fp)(e:h.get? b=Za o):(b,o)∈QG fp h:=List.mem_filterMap.mpr ⟨b,hb,by rw[e];rfl⟩
theorem Jrb {fp:List Zp}{h:Zax}{p:Zp×Obj}(hp:p∈QG fp h):p.1∈fp/\h.get? p.1=Za p.2:=by
 obtain⟨b,hb,e⟩:=List.mem_filterMap.mp hp
 cases q:h.get? b with
 | none=>rw[q] at e;cases e
 | some o =>
  rw[q] at e
  have e':(b,o)=p:=Zao e
  subst e'
  exact⟨hb,q⟩
theorem Inv.pinned {pj:PnT}{σ:St}{H:Hp}{s:Zm}{fp:List Zp}(I:Inv X pj σ H s)(hf:∀b∈fp,FpOk X pj H b)(ho:∀b∈fp,∃o,s.heap.get? b=Za o/\∀v,o.data≠.cell v):Inv X (pj++QG fp s.heap) σ H s :=
 I.pins_of λ p hp=>(ZL.mp hp).elim (λ z=>I.pin p (Zi _ z)) λ z=>by
  obtain⟨hb,e⟩:=Jrb z
  obtain⟨f0,f1,f2,_⟩:=hf p.1 hb
  obtain⟨o,e',d⟩:=ho p.1 hb
  rw[e] at e';cases e'
  exact⟨e,f0,f1,f2,d⟩
theorem Inv.unpinned {pj pl:PnT}{σ:St}{H:Hp}{s:Zm}(I:Inv X (pj++pl) σ H s):Inv X pj σ H s:=I.pins_of λ p hp=>I.pin p (Zi _ (Zah _ hp))
end
abbrev R2:=V->V->Hp->VK->Prop
def OpR (X:Cx)(f:Ze->Ze->Sem Ze)(r:R2):Prop :=
 ∀(pj:PnT)(s:Zm)(σ:St)(H:Hp)(x y:V)(v u:Ze)(Q:VK),Inv X pj σ H s->RelV x v->RelV y u->r x y H Q ->
  Zy (Z9 X.prog X.w) X.A (f v u) (EP X pj σ Q) X.xe s
def UnR (X:Cx)(f:Ze->Sem Ze)(r:V->Hp->VK->Prop):Prop :=
 ∀(pj:PnT)(s:Zm)(σ:St)(H:Hp)(x:V)(v:Ze)(Q:VK),Inv X pj σ H s->RelV x v->r x H Q ->
  Zy (Z9 X.prog X.w) X.A (f v) (EP X pj σ Q) X.xe s
def Xm (X:Cx)(f:Ze)(r:List V->Hp->VK->Prop):Prop :=
 ∀(pj:PnT)(s:Zm)(σ:St)(H:Hp)(xs:List V)(us:List Ze)(Q:VK),Inv X pj σ H s->Vals xs us->r xs H Q ->
  Zy (Z9 X.prog X.w) X.A (call f us) (EP X pj σ Q) X.xe s
def TruR (X:Cx)(r:V->Hp->(Bool->Hp->Prop)->Prop):Prop :=
 ∀(pj:PnT)(s:Zm)(σ:St)(H:Hp)(x:V)(v:Ze)(Q:Bool->Hp->Prop),Inv X pj σ H s->RelV x v->r x H Q ->
  Zy (Z9 X.prog X.w) X.A (truthy v) (TP X pj σ Q) X.xe s
def rI (C:Int->Int->Prop)(g:Int->Int->V):R2:=λ x y H Q=>∃i j,x=.int i/\y=.int j/\C i j/\Q (g i j) H
def rI0 (g:Int->Int->V):R2:=λ x y H Q=>∃i j,x=.int i/\y=.int j/\Q (g i j) H
def rU (g:Int->V):V->Hp->VK->Prop:=λ x H Q=>∃i,x=.int i/\Q (g i) H
section
variable {X:Cx}{a b c:Expr}{ta tb tc:TE}{pos:Pos}
theorem opI {f:Ze->Ze->Sem Ze}{C:Int->Int->Prop}{g:Int->Int->Int}
  (rule:∀(i j:Int)(t u:Tok)(s:Zm)(Q:QvT)(E:QvT),C i j->Q (.int (g i j) s.toks) { s with toks:=s.toks+1 }->Zy (Z9 X.prog X.w) X.A (f (.int i t) (.int j u)) Q E s) :
  OpR X f (rI C λ i j=>.int (g i j)):=by
 intro pj s σ H x y v u Q I rx ry h
 obtain⟨i,j,rfl,rfl,hc,q⟩:=h
 obtain⟨t,rfl⟩:=rx
 obtain⟨t',rfl⟩:=ry
 exact rule i j t t' s _ _ hc ⟨.int (g i j),H,I.tok _,⟨_,rfl⟩,q⟩
theorem opI0 {f:Ze->Ze->Sem Ze}{g:Int->Int->Int}
  (rule:∀(i j:Int)(t u:Tok)(s:Zm)(Q:QvT)(E:QvT),Q (.int (g i j) s.toks) { s with toks:=s.toks+1 }->Zy (Z9 X.prog X.w) X.A (f (.int i t) (.int j u)) Q E s) :
  OpR X f (rI0 λ i j=>.int (g i j)):=by
 intro pj s σ H x y v u Q I rx ry h
 obtain⟨i,j,rfl,rfl,q⟩:=h
 obtain⟨t,rfl⟩:=rx
 obtain⟨t',rfl⟩:=ry
 exact rule i j t t' s _ _ ⟨.int (g i j),H,I.tok _,⟨_,rfl⟩,q⟩
theorem opB0 {f:Ze->Ze->Sem Ze}{g:Int->Int->Bool}
  (rule:∀(i j:Int)(t u:Tok)(s:Zm)(Q:QvT)(E:QvT),Q (.bool (g i j)) s->Zy (Z9 X.prog X.w) X.A (f (.int i t) (.int j u)) Q E s) :
  OpR X f (rI0 λ i j=>.bl (g i j)):=by
 intro pj s σ H x y v u Q I rx ry h
 obtain⟨i,j,rfl,rfl,q⟩:=h
 obtain⟨t,rfl⟩:=rx
 obtain⟨t',rfl⟩:=ry
 exact rule i j t t' s _ _ ⟨.bl (g i j),H,I,rfl,q⟩
def CPow (i j:Int):Prop:=0<=j/\j<=1000000/\i.natAbs<2^64
theorem J0i:OpR X (ZaU .Add) (rI0 λ i j=>.int (i+j)):=opI0 λ _ _ _ _ _ _ _ q=>add_int q
theorem J0n:OpR X (ZaU .Sub) (rI0 λ i j=>.int (i-j)):=opI0 λ _ _ _ _ _ _ _ q=>sub_int q
theorem J0k:OpR X (ZaU .Mod) (rI (λ _ j=>0<j) λ i j=>.int (i%j)):=opI λ i j _ _ _ _ _ hc q=>by
 have h1:(0:Int)<j:=hc
 exact mod_int' (by omega) (by rw[Int.fmod_eq_emod_of_nonneg i (by omega)];exact q)
theorem J0l:OpR X (ZaU .Pow) (rI CPow λ i j=>.int (i^j.toNat)):=opI λ _ _ _ _ _ _ _ hc q=>pow_int_small hc.1 hc.2.1 hc.2.2 q
theorem unI {f:Ze->Sem Ze}{g:Int->Int}
  (rule:∀(i:Int)(t:Tok)(s:Zm)(Q:QvT)(E:QvT),Q (.int (g i) s.toks) { s with toks:=s.toks+1 }->Zy (Z9 X.prog X.w) X.A (f (.int i t)) Q E s) :
  UnR X f (rU λ i=>.int (g i)):=by
 intro pj s σ H x v Q I rx h
 obtain⟨i,rfl,q⟩:=h
 obtain⟨t,rfl⟩:=rx
 exact rule i t s _ _ ⟨.int (g i),H,I.tok _,⟨_,rfl⟩,q⟩
theorem J1j:UnR X (unaryOp .USub) (rU λ i=>.int (-i)):=unI λ _ _ _ _ _ q=>neg_int q
end
def scal:V->V->Bool
 | .non,.non=>Zh|.non,.int _=>Zh|.int _,.non=>Zh|.non,.bl _=>Zh|.bl _,.non=>Zh|.non,.str _=>Zh|.str _,.non=>Zh
 | .int _,.int _=>Zh|.bl _,.bl _=>Zh|.str _,.str _=>Zh|.byt _,.byt _=>Zh
 | .int _,.str _=>Zh|.str _,.int _=>Zh|.bl _,.str _=>Zh|.str _,.bl _=>Zh
 | _,_=>Zk
def rEq:R2:=λ x y H Q=>scal x y=Zh/\Q (.bl (decide (x=y))) H
def rNe:R2:=λ x y H Q=>scal x y=Zh/\Q (.bl (!decide (x=y))) H
theorem Jp5 {i j:Int}:decide (V.int i=V.int j)=(i==j):=by
 rw[Zcu]
 simp
theorem Jva {i j:Bool}:decide (V.bl i=V.bl j)=(i==j):=by
 rw[Zcu]
 simp
theorem Jp6 {i j:Str}:decide (V.str i=V.str j)=(i==j):=by
 rw[Zcu]
 simp
theorem Jp4 {i j:Array UInt8}:decide (V.byt i=V.byt j)=(i.toList==j.toList):=by
 rw[Zcu]
 cases i
 cases j
 simp
section
variable {X:Cx}{a b c:Expr}{ta tb tc:TE}{pos:Pos}
theorem J8 {pj:PnT}{σ:St}{H:Hp}{s:Zm}{Q:VK}{k k':Bool}(I:Inv X pj σ H s)(q:Q (.bl k) H)(e:k=k'):EP X pj σ Q (.bool k') s:=by
 subst e
 exact⟨.bl k,H,I,rfl,q⟩
theorem J2u:OpR X (Zav .Eq) rEq:=by
 intro pj s σ H x y v u Q I rx ry h
 obtain⟨hs,q⟩:=h
 cases x with
 | non =>
  cases rx
  cases y with
  | non=>cases ry;exact PySem.EqNone.eq_none_none (J8 I q (by simp))
  | bl j=>cases ry;exact PySem.EqNone.eq_none_bool (J8 I q (by simp))
  | int j=>obtain⟨t',rfl⟩:=ry;exact PySem.EqNone.eq_none_int (J8 I q (by simp))
  | str j=>obtain⟨t',rfl⟩:=ry;exact PySem.EqNone.eq_none_str (J8 I q (by simp))
  | _=>exact absurd (show Zk=Zh from hs) Zt
 | bl i =>
  cases rx
  cases y with
  | non=>cases ry;exact PySem.EqNone.eq_bool_none (J8 I q (by simp))
  | bl j=>cases ry;exact eq_bool (J8 I q Jva)
  | str j=>obtain⟨t',rfl⟩:=ry;exact PySem.EqMixed.eq_bool_str (J8 I q (by simp))
  | _=>exact absurd (show Zk=Zh from hs) Zt
 | int i =>
  obtain⟨t,rfl⟩:=rx
  cases y with
  | non=>cases ry;exact PySem.EqNone.eq_int_none (J8 I q (by simp))
  | int j=>obtain⟨t',rfl⟩:=ry;exact eq_int (J8 I q Jp5)
  | str j=>obtain⟨t',rfl⟩:=ry;exact PySem.EqMixed.eq_int_str (J8 I q (by simp))
  | _=>exact absurd (show Zk=Zh from hs) Zt
 | str i =>
  obtain⟨t,rfl⟩:=rx
  cases y with
  | non=>cases ry;exact PySem.EqNone.eq_str_none (J8 I q (by simp))
  | bl j=>cases ry;exact PySem.EqMixed.eq_str_bool (J8 I q (by simp))
  | int j=>obtain⟨t',rfl⟩:=ry;exact PySem.EqMixed.eq_str_int (J8 I q (by simp))
  | str j=>obtain⟨t',rfl⟩:=ry;exact eq_str (J8 I q Jp6)
  | _=>exact absurd (show Zk=Zh from hs) Zt
 | byt i =>
  obtain⟨t,rfl⟩:=rx
  cases y with
  | byt j=>obtain⟨t',rfl⟩:=ry;exact W.eq_bytes (J8 I q Jp4)
  | _=>exact absurd (show Zk=Zh from hs) Zt
 | _=>cases y<;>exact absurd (show Zk=Zh from hs) Zt
theorem J2z:OpR X (Zav .NotEq) rNe:=by
 intro pj s σ H x y v u Q I rx ry h
 obtain⟨hs,q⟩:=h
 cases x with
 | non =>
  cases rx
  cases y with
  | non=>cases ry;exact PySem.EqNone.ne_none_none (J8 I q (by simp))
  | bl j=>cases ry;exact PySem.EqNone.ne_none_bool (J8 I q (by simp))
  | int j=>obtain⟨t',rfl⟩:=ry;exact PySem.EqNone.ne_none_int (J8 I q (by simp))
  | str j=>obtain⟨t',rfl⟩:=ry;exact PySem.EqNone.ne_none_str (J8 I q (by simp))
  | _=>exact absurd (show Zk=Zh from hs) Zt
 | bl i =>
  cases rx
  cases y with
  | non=>cases ry;exact PySem.EqNone.ne_bool_none (J8 I q (by simp))
  | bl j=>cases ry;exact ne_bool (J8 I q (congrArg not Jva))
  | str j=>obtain⟨t',rfl⟩:=ry;exact PySem.EqMixed.ne_bool_str (J8 I q (by simp))
  | _=>exact absurd (show Zk=Zh from hs) Zt
 | int i =>
  obtain⟨t,rfl⟩:=rx
  cases y with
  | non=>cases ry;exact PySem.EqNone.ne_int_none (J8 I q (by simp))
  | int j=>obtain⟨t',rfl⟩:=ry;exact ne_int (J8 I q (congrArg not Jp5))
  | str j=>obtain⟨t',rfl⟩:=ry;exact PySem.EqMixed.ne_int_str (J8 I q (by simp))
  | _=>exact absurd (show Zk=Zh from hs) Zt
 | str i =>
  obtain⟨t,rfl⟩:=rx
  cases y with
  | non=>cases ry;exact PySem.EqNone.ne_str_none (J8 I q (by simp))
  | bl j=>cases ry;exact PySem.EqMixed.ne_str_bool (J8 I q (by simp))
  | int j=>obtain⟨t',rfl⟩:=ry;exact PySem.EqMixed.ne_str_int (J8 I q (by simp))
  | str j=>obtain⟨t',rfl⟩:=ry;exact ne_str (J8 I q (congrArg not Jp6))
  | _=>exact absurd (show Zk=Zh from hs) Zt
 | byt i =>
  obtain⟨t,rfl⟩:=rx
  cases y with
  | byt j=>obtain⟨t',rfl⟩:=ry;exact W.ne_bytes (J8 I q (congrArg not Jp4))
  | _=>exact absurd (show Zk=Zh from hs) Zt
 | _=>cases y<;>exact absurd (show Zk=Zh from hs) Zt
theorem J2y:OpR X (Zav .Lt) (rI0 λ i j=>.bl (decide (i<j))):=opB0 λ _ _ _ _ _ _ _ q=>lt_int q
theorem J2x:OpR X (Zav .LtE) (rI0 λ i j=>.bl (decide (i<=j))):=opB0 λ _ _ _ _ _ _ _ q=>le_int q
theorem J2w:OpR X (Zav .Gt) (rI0 λ i j=>.bl (decide (j<i))):=opB0 λ _ _ _ _ _ _ _ q=>gt_int q
theorem J2v:OpR X (Zav .GtE) (rI0 λ i j=>.bl (decide (j<=i))):=opB0 λ _ _ _ _ _ _ _ q=>ge_int q
theorem Jrc:OpR X (Zav .Lt) (λ x y H Q=>∃i j,x=.str i/\y=.str j/\Q (.bl (decide (i.cps.toList<j.cps.toList))) H):=by
 intro pj s σ H x y v u Q I rx ry h
 obtain⟨i,j,rfl,rfl,q⟩:=h
 obtain⟨t,rfl⟩:=rx
 obtain⟨t',rfl⟩:=ry
 exact lt_str (J8 I q rfl)
def TruV (K:W.Frag)(x:V)(H:Hp)(k:Bool):Prop :=
 match x with
 | .non=>k=Zk
 | .bl b=>k=b
 | .int i=>k=(i != 0)
 | .str y=>y.length<=sizeLine/\k=((y.length:Int) != 0)
 | .byt y=>y.size<=sizeLine/\k=((y.size:Int) != 0)
 | .ref p=>(∃xs,SqL K H p xs/\k=!xs.isEmpty)∨(∃xs,SqT K H p xs/\k=!xs.isEmpty)∨∃kvs,H p=Za (.dK kvs)/\k=!kvs.isEmpty
 | _=>False
theorem Jor {κ:Type}{kvs:List (κ×V)}{vs:List (κ×Ze)}(r:KV kvs vs):(!vs.isEmpty)=!kvs.isEmpty:=by
 cases r<;>rfl
theorem Jim {xs:List V}{its:List Ze}(r:Vals xs its):(!its.toArray.isEmpty)=!xs.isEmpty:=by
 cases r<;>simp
theorem VY:(sizeLine:Nat)<2^63:=by rw[Zbp];decide
theorem VO:TruR X (λ x H Q=>∃k,TruV X.K x H k/\Q k H):=by
 intro pj s σ H x v Q I rx h
 obtain⟨k,e,q⟩:=h
 have hl:=VY
 have hs:sizeLine=16777216:=Zbp
 cases x with
 | non =>
  cases rx
  have e':k=Zk:=e
  subst e'
  exact truthy_none ⟨H,I,q⟩
 | bl b =>
  cases rx
  have e':k=b:=e
  subst e'
  exact ZaK ⟨H,I,q⟩
 | int i =>
  obtain⟨t,rfl⟩:=rx
  have e':k=(i != 0):=e
  subst e'
  exact PySem.P.truthy_int ⟨H,I,q⟩
 | str y =>
  obtain⟨t,rfl⟩:=rx
  obtain⟨hy,e'⟩:y.length<=sizeLine/\k=((y.length:Int) != 0):=e
  subst e'
  exact PySem.P.truthy_str (by omega) ⟨H,I.tok _,q⟩
 | byt y =>
  obtain⟨t,rfl⟩:=rx
  obtain⟨hy,e'⟩:y.size<=sizeLine/\k=((y.size:Int) != 0):=e
  subst e'
  exact W.truthy_bytes (by omega) ⟨H,I.tok _,q⟩
 | ref p =>
  cases rx
  have e':(∃xs,SqL X.K H p xs/\k=!xs.isEmpty)∨(∃xs,SqT X.K H p xs/\k=!xs.isEmpty)∨∃kvs,H p=Za (.dK kvs)/\k=!kvs.isEmpty:=e
  rcases e' with⟨xs,hx,e'⟩|⟨xs,hx,e'⟩|⟨kvs,hx,e'⟩
  ·subst e'
   obtain⟨its,r,pl,hz⟩:=I.list hx
   have hlen:=r.length
   exact wpAny_truthy_list pl.isList (by simp only[Zu];omega) ⟨H,I.tok _,by rw[Jim r];exact q⟩
  ·subst e'
   obtain⟨its,r,pl,hz⟩:=I.tuple hx
   have hlen:=r.length
   exact truthy_tuple pl (by simp only[Zu];omega) ⟨H,I.tok _,by rw[Jim r];exact q⟩
  ·subst e'
   obtain⟨hz,hS,vs,r,m⟩:kvs.length<=sizeLine/\(p==Zcy)=Zk/\∃vs,KV kvs vs/\s.heap.DictOf (Vi X.prog X.w) p vs:=I.hok p _ hx
   have hlen:kvs.length=vs.length:=Zeo r
   exact wpAny_truthy_dict hS m (by omega) ⟨H,I.tok _,by rw[Jor r];exact q⟩
 | _=>exact Zf e
theorem Jo2:OpR X (ZaU .Add) (λ x y H Q=>∃i j,x=.str i/\y=.str j/\i.length+j.length<=sizeLine/\Q (.str (i++j)) H):=by
 intro pj s σ H x y v u Q I rx ry h
 obtain⟨i,j,rfl,rfl,hz,q⟩:=h
 obtain⟨t,rfl⟩:=rx
 obtain⟨t',rfl⟩:=ry
 exact add_str (λ t' tk=>⟨.str (i++j),H,I.tok _,⟨_,rfl⟩,q⟩) hz
theorem QN {x:V}{us:List Ze}(r:Vals [x] us):∃u,us=[u]/\RelV x u:=by
 cases r with
 | cons r1 r2=>cases r2;exact⟨_,rfl,r1⟩
theorem J1l {x y:V}{us:List Ze}(r:Vals [x,y] us):∃u w',us=[u,w']/\RelV x u/\RelV y w':=by
 cases r with
 | cons r1 r2 =>
  cases r2 with
  | cons r3 r4=>cases r4;exact⟨_,_,rfl,r1,r3⟩
theorem Jpz (hc:X.calm=Zh):Xm X (.builtin "max") (λ xs H Q=>∃i j,xs=[.int i,.int j]/\Q (.int (if j>i then j else i)) H):=by
 intro pj s σ H xs us Q I r h
 obtain⟨i,j,rfl,q⟩:=h
 obtain⟨u,w',rfl,⟨t,rfl⟩,⟨t',rfl⟩⟩:=J1l r
 refine max_two_ints (I.ok.hd hc) λ h' tk k=>⟨_,H,I.kept k,?_,q⟩
 by_cases hj:j>i
 ·rw[if_pos hj,if_pos hj];exact⟨_,rfl⟩
 ·rw[if_neg hj,if_neg hj];exact⟨_,rfl⟩
theorem Jp0 (hc:X.calm=Zh):Xm X (.builtin "min") (λ xs H Q=>∃i j,xs=[.int i,.int j]/\Q (.int (if j<i then j else i)) H):=by
 intro pj s σ H xs us Q I r h
 obtain⟨i,j,rfl,q⟩:=h
 obtain⟨u,w',rfl,⟨t,rfl⟩,⟨t',rfl⟩⟩:=J1l r
 refine min_two_ints (I.ok.hd hc) λ h' tk k=>⟨_,H,I.kept k,?_,q⟩
 by_cases hj:j<i
 ·rw[if_pos hj,if_pos hj];exact⟨_,rfl⟩
 ·rw[if_neg hj,if_neg hj];exact⟨_,rfl⟩
def LenV (K:W.Frag)(x:V)(H:Hp)(n:Nat):Prop :=
 match x with
 | .str y=>y.length<=sizeLine/\n=y.length
 | .byt y=>y.size<=sizeLine/\n=y.size
 | .ref p=>(∃xs,SqL K H p xs/\n=xs.length)∨∃xs,SqT K H p xs/\n=xs.length
 | _=>False
theorem Jf7:Xm X (.builtin "len") (λ xs H Q=>∃x n,xs=[x]/\LenV X.K x H n/\Q (.int n) H):=by
 intro pj s σ H xs us Q I r h
 obtain⟨x,n,rfl,e,q⟩:=h
 obtain⟨u,rfl,rx⟩:=QN r
 have hl:=VY
 have hs:sizeLine=16777216:=Zbp
 cases x with
 | str y =>
  obtain⟨t,rfl⟩:=rx
  obtain⟨hy,e'⟩:y.length<=sizeLine/\n=y.length:=e
  subst e'
  exact len_str (by omega) ⟨.int _,H,I.tok _,⟨_,rfl⟩,q⟩
 | byt y =>
  obtain⟨t,rfl⟩:=rx
  obtain⟨hy,e'⟩:y.size<=sizeLine/\n=y.size:=e
  subst e'
  exact W.len_bytes (by omega) ⟨.int _,H,I.tok _,⟨_,rfl⟩,q⟩
 | ref p =>
  cases rx
  have e':(∃xs,SqL X.K H p xs/\n=xs.length)∨∃xs,SqT X.K H p xs/\n=xs.length:=e
  rcases e' with⟨xs,hx,e'⟩|⟨xs,hx,e'⟩
  ·subst e'
   obtain⟨its,r',pl,hz⟩:=I.list hx
   have hlen:=r'.length
   exact Calls.call_len_list pl.isList (by simp only[Zu];omega) ⟨.int xs.length,H,I.tok _,⟨_,by simp only[Zu];rw[hlen]⟩,q⟩
  ·subst e'
   obtain⟨its,r',pl,hz⟩:=I.tuple hx
   have hlen:=r'.length
   exact len_tuple pl (by simp only[Zu];omega) ⟨.int xs.length,H,I.tok _,⟨_,by simp only[Zu];rw[hlen]⟩,q⟩
 | _=>exact Zf e
end
structure ObjM (h:Zax)(x dx C:Zp)(mA:Str->Option Ze):Prop where
 obj:h.get? x=Za (W.instObj C dx)
 ns:h.Ns1 dx mA
 ne:dx≠x
theorem Jq5 {h:Zax}{dx:Zp}{mA:Str->Option Ze}(n:h.Ns1 dx mA):∃od,h.get? dx=Za od/\∀name,W.lookIn name od=Za (mA name):=by
 obtain⟨o,es,ep,ho,hd,hk,_,hm⟩:=n
 refine⟨o,ho,λ name=>?_⟩
 have e:=hm name
 unfold nsFind findBy at e
 rw[<- Array.find?_toList] at e
 unfold W.lookIn
 rw[hd]
 dsimp only
 split
 ·rename_i y q
  rw[q] at e
  exact congrArg Za e
 ·rename_i q
  rw[q] at e
  have a:es.toList.any (·.refKey)=Zk:=by
   rw[List.any_eq_false]
   intro y hy
   obtain⟨z,t,hkey⟩:=hk y (Array.mem_toList_iff.mp hy)
   simp[DictEntry.refKey,hkey]
  have a':¬es.toList.any (·.refKey)=Zh:=by rw[a];exact Zt
  rw[if_neg a']
  exact congrArg Za e
theorem ObjM.look {h:Zax}{x dx C:Zp}{mA:Str->Option Ze}(I:ObjM h x dx C mA):∃od,W.InstAt h x (W.instObj C dx) C (Za od)/\∀name,W.lookIn name od=Za (mA name) :=
 let ⟨od,ho,hl⟩:=Jq5 I.ns
 ⟨od,⟨I.obj,rfl,rfl,ho⟩,hl⟩
section
variable {prog:ZB}{w:Zab}{A:ZN}{E:QvT}{s:Zm}{K:W.Frag}{x dx C f:Zp}{mA:Str->Option Ze}{name:Str}{v:Ze}
theorem Jw0 {expr:Bool}{Q:QvT}(X:K.In s.heap)(I:ObjM s.heap x dx C mA)(hg:W.plainGet K C name=Zh)(hh:W.hasDictIn K C=Zh)
  (ha:W.findIn K (.ref C) name=Za Zc)(hv:mA name=Za v)(hv':W.handedIn v=Zh)(h:Q v { s with toks:=s.toks+1 }) :
  Zy (Z9 prog w) A (getAttr (.ref x) name expr) Q E s:=by
 obtain⟨od,J,hl⟩:=I.look
 exact W.get_value X J (W.plainGet_of hg).1 (W.findObj_own hh ha rfl (by rw[hl,hv])) hv' h
theorem Jsz {pl:Sem Bool}{Q:Ze×List Ze->Zm->Prop}(X:K.In s.heap)(I:ObjM s.heap x dx C mA)(hg:W.plainGet K C name=Zh)
  (hf:W.findIn K (.ref C) name=Za (Za (.ref f)))(ht:W.isFn K (.ref f)=Zh)(hv:mA name=Zc)(h:Q (.ref f,[.ref x]) s) :
  Zy (Z9 prog w) A (Zd4 (.ref x) name pl) Q E s:=by
 obtain⟨od,J,hl⟩:=I.look
 exact W.method_fn X J (W.plainGet_of hg).1 (W.plainGet_of hg).2 hf (beq_iff_eq.mp ht) (by show(W.lookIn name od).map (·.isSome)=Za Zk;rw[hl,hv];rfl) h
theorem Jx7 {ns:List Str}{Q:Unit->Zm->Prop}(X:K.In s.heap)(I:ObjM s.heap x dx C mA)
  (hs:W.findIn K (.ref C) "__setattr__"=Za (Za (.builtin "object.__setattr__")))(hp:W.plainOver K C=Zh)(ht:W.takerIn K C name=Za Zc)(hh:W.hasDictIn K C=Zh)
  (hw:Zex mA ns)(hsz:ns.length<=sizeLine)
  (h:∀h',ObjM h' x dx C (λ y=>if y=name then Za v else mA y)->Zc6 dx s.heap h'->Q () { s with heap:=h',toks:=s.toks+2 }) :
  Zy (Z9 prog w) A (setAttr (.ref x) name v) Q E s:=by
 obtain⟨od,J,hl⟩:=I.look
 refine W.set_plain X J hs (W.osa_open (s:={ s with toks:=s.toks+1 }) (r:=Zc) X J hp ht λ b=>?_)
 obtain⟨cd,hc,hd'⟩:=W.any_some hh
 have hx:s.heap.get? x=Za ⟨.ref C,Za dx,.plain,#[]⟩:=I.obj
 refine Zd (Zw (Zd (Zd (wpAny_loadPart hx (Zd (W.Looks.here (s:={ s with toks:=s.toks+1 }) (W.looks_clsIn X hc) ?_))))))
 rw[hd']
 refine Zw (a:=Za dx) (Zd (Zw (Zd ?_)))
 refine wpAny_nsSet1 (s:={ s with toks:=s.toks+1 }) I.ns λ h' hn2 hs2=>?_
 obtain⟨oD,esD,epD,hoD,hdD,hcD⟩:=hn2.count (PySem.Within.cons name v hw)
 refine Zd (wpAny_lookBehind hoD (by rw[hdD];exact pastItsLine_dict (ZZ hcD (by rw[ZC];omega))) ?_)
 exact Zw (h _ ⟨(hs2.2 _ (ZI I.ne)).trans I.obj,hn2,I.ne⟩ hs2)
theorem Jtp {R:ZdK->Zm->Prop}{vs:List Ze}{kw:List (Str×Ze)}(X:K.In s.heap)(hm:W.makesIn K C=Zh)
  (hi:W.findIn K (.ref C) "__init__"=Za (Za (.ref f)))(hf:W.typeIn K (.ref f)=Za (.type "function"))
  (h:Zcv (Z9 prog w) (A.under (.builtin "type.__call__" ⟨.ref C::vs,kw⟩)) (.call (.ref f) ⟨.ref (s.heap.objs.size+1)::vs,kw⟩) (W.InitBack (s.heap.objs.size+1) R)
   { s with heap:=(s.heap.push W.emptyDict).push (W.instObj C s.heap.objs.size) }) :
  Zcv (Z9 prog w) A (.call (.ref C) ⟨vs,kw⟩) R s:=by
 obtain⟨hh,g,d,t,os⟩:=s
 exact W.make_core (W.makes_of X hm) (W.looks_findIn X hi) (λ self=>W.bind_fn X self hf) (.inl rfl) h
end
def putF (f:Str)(v:V):List (Str×V)->List (Str×V)
 | []=>[(f,v)]
 | (g,x)::r=>if g=f then(g,v)::r else(g,x)::putF f v r
theorem Jhf (f g:Str)(v:V):∀fs:List (Str×V),(putF f v fs).lookup g=if g=f then Za v else fs.lookup g
 | []=>by
  show Zb4 g [(f,v)]=_
  by_cases h:g=f
  ·have hb:(g==f)=Zh:=beq_iff_eq.mpr h
   simp only[Zb4,hb,if_pos h]
  ·have hb:(g==f)=Zk:=beq_eq_false_iff_ne.mpr h
   simp only[Zb4,hb,if_neg h]
 | (k,x)::r=>by
  have ih:=Jhf f g v r
  rw[show putF f v ((k,x)::r)=(if k=f then(k,v)::r else(k,x)::putF f v r) from rfl]
  by_cases hk:k=f
  ·rw[if_pos hk]
   by_cases h:g=k
   ·have hb:(g==k)=Zh:=beq_iff_eq.mpr h
    simp only[Zb4,hb,if_pos (h.trans hk)]
   ·have hb:(g==k)=Zk:=beq_eq_false_iff_ne.mpr h
    simp only[Zb4,hb,if_neg (λ e:g=f=>h (e.trans hk.symm))]
  ·rw[if_neg hk]
   by_cases h:g=k
   ·have hb:(g==k)=Zh:=beq_iff_eq.mpr h
    simp only[Zb4,hb,if_neg (λ e:g=f=>hk (h.symm.trans e))]
   ·have hb:(g==k)=Zk:=beq_eq_false_iff_ne.mpr h
    simp only[Zb4,hb]
    exact ih
theorem Jhd (f:Str)(v:V):∀fs:List (Str×V),f∈(putF f v fs).map (·.1)/\∀g,g∈fs.map (·.1)->g∈(putF f v fs).map (·.1)
 | []=>⟨by simp[putF],λ g h=>by simp at h⟩
 | (k,x)::r=>by
  obtain⟨i1,i2⟩:=Jhd f v r
  rw[show putF f v ((k,x)::r)=(if k=f then(k,v)::r else(k,x)::putF f v r) from rfl]
  by_cases hk:k=f
  ·rw[if_pos hk]
   subst hk
   exact⟨by simp,λ g h=>by simpa using h⟩
  ·rw[if_neg hk]
   refine⟨?_,λ g h=>?_⟩
   ·rw[Z6]
    exact Zn _ i1
   ·rw[Z6] at h ⊢
    rcases Z7.mp h with e|e
    ·exact Z7.mpr (.inl e)
    ·exact Zn _ (i2 g e)
theorem Jhe (f:Str)(v:V):∀fs:List (Str×V),(putF f v fs).length<=fs.length+1
 | []=>by simp[putF]
 | (k,x)::r=>by
  have ih:=Jhe f v r
  rw[show putF f v ((k,x)::r)=(if k=f then(k,v)::r else(k,x)::putF f v r) from rfl]
  by_cases hk:k=f
  ·rw[if_pos hk,ZC,ZC];omega
  ·rw[if_neg hk,ZC,ZC];omega
theorem RelO.some_of {v:V}{o:Option Ze}(r:RelO (Za v) o):∃u,o=Za u/\RelV v u:=by
 cases o with
 | none=>exact Zf r
 | some u=>exact⟨u,rfl,r⟩
theorem RelO.none_of {o:Option Ze}(r:RelO Zc o):o=Zc:=by
 cases o with
 | none=>rfl
 | some u=>exact Zf r
theorem Jqi {v:V}{u:Ze}(r:RelV v u):W.handedIn u=Zh:=by
 cases v with
 | non=>cases (show u=Zaa from r);rfl
 | bl b=>cases (show u=ZcI b from r);rfl
 | int i=>obtain⟨t,e⟩:=(show ∃t,u=ZbZ i t from r);cases e;rfl
 | str x=>obtain⟨t,e⟩:=(show ∃t,u=Zei x t from r);cases e;rfl
 | byt b=>obtain⟨t,e⟩:=(show ∃t,u=Value.bytes b t from r);cases e;rfl
 | flt b=>obtain⟨t,e⟩:=(show ∃t,u=Value.float b t from r);cases e;rfl
 | ref a=>cases (show u=Zde a from r);rfl
 | ty n=>cases (show u=Zet n from r);rfl
section
variable {P:ZB}{w:Zab}{H H':Hp}{h h':Zax}{a C dx:Zp}{fs fs':List (Str×V)}
theorem Jjg (hok:HOk P w H h)(e:H a=Za (.ins C dx fs)):∃mA,ObjM h a dx C mA/\(∀f,RelO (fs.lookup f) (mA f))/\Zex mA (fs.map (·.1))/\fs.length<=1000/\H dx=Za (.own a):=by
 obtain⟨d,z,ne,ob,mA,n,r,q⟩:=(show JG P w H h a (.ins C dx fs) from hok a _ e)
 exact⟨mA,⟨ob,n,ne⟩,r,q,z,d⟩
end
structure Cls (K:W.Frag)(C:Zp):Prop where
 pg:W.plainGet K C Str.empty=Zh
 hd:W.hasDictIn K C=Zh
 po:W.plainOver K C=Zh
 sa:W.findIn K (.ref C) "__setattr__"=Za (Za (.builtin "object.__setattr__"))
theorem Cls.get {K:W.Frag}{C:Zp}(c:Cls K C)(f:Str):W.plainGet K C f=Zh:=c.pg
def Q9 (K:W.Frag)(C:Zp)(f:Str):Prop:=W.findIn K (.ref C) f=Za Zc
theorem Q9.taker {K:W.Frag}{C:Zp}{f:Str}(n:Q9 K C f):W.takerIn K C f=Za Zc:=by
 unfold W.takerIn
 rw[show W.findIn K (.ref C) f=Za Zc from n]
 rfl
structure Meth (K:W.Frag)(C:Zp)(m:Str)(f:Zp):Prop where
 at_:W.findIn K (.ref C) m=Za (Za (.ref f))
 fn:W.isFn K (.ref f)=Zh
 kp:W.keepIn K (.ref f)=Zh
section
variable {X:Cx}{pj:PnT}{σ:St}{H:Hp}{s:Zm}{a C dx:Zp}{fs:List (Str×V)}{f:Str}{v:V}{A:ZN}{E:QvT}
theorem Jik {b:Bool}{Q:QvT}(I:Inv X pj σ H s)(e:H a=Za (.ins C dx fs))(c:Cls X.K C)(n:Q9 X.K C f)(l:fs.lookup f=Za v)
  (h:∀u s',Inv X pj σ H s'->RelV v u->Q u s'):Zy (Z9 X.prog X.w) A (getAttr (.ref a) f b) Q E s:=by
 obtain⟨mA,O,r,_,_,_⟩:=Jjg I.hok e
 obtain⟨u,hu,ru⟩:=RelO.some_of (v:=v) (o:=mA f) (by rw[<- l];exact r f)
 exact Jw0 I.kIn O (c.get f) c.hd n hu (Jqi ru) (h u _ (I.tok _) ru)
theorem Jil {m:Str}{g:Zp}{pl:Sem Bool}{Q:Ze×List Ze->Zm->Prop}(I:Inv X pj σ H s)(e:H a=Za (.ins C dx fs))(c:Cls X.K C)(k:Meth X.K C m g)(l:fs.lookup m=Zc)
  (h:Q (.ref g,[.ref a]) s):Zy (Z9 X.prog X.w) A (Zd4 (.ref a) m pl) Q E s:=by
 obtain⟨mA,O,r,_,_,_⟩:=Jjg I.hok e
 have hn:mA m=Zc:=RelO.none_of (by rw[<- l];exact r m)
 exact Jsz I.kIn O (c.get m) k.at_ k.fn hn h
theorem Jiq {y:V}{u:Ze}{Q:Unit->Zm->Prop}(I:Inv X pj σ H s)(e:H a=Za (.ins C dx fs))(c:Cls X.K C)(n:Q9 X.K C f)(hl:fs.length<1000)(ry:RelV y u)
  (h:∀s',Inv X pj σ (upd H a (.ins C dx (putF f y fs))) s'->Q () s'):Zy (Z9 X.prog X.w) A (setAttr (.ref a) f u) Q E s:=by
 obtain⟨mA,O,r,wi,_,ho⟩:=Jjg I.hok e
 have hz:(fs.map (·.1)).length<=sizeLine:=by rw[Zj,Zbp];omega
 refine Jx7 I.kIn O c.sa c.po n.taker c.hd wi hz λ h' O' sb=>h _ ?_
 have hd:∃o,h'.get? dx=Za o:=let ⟨o,_,_,e',_⟩:=O'.ns;⟨o,e'⟩
 refine I.write (x:=a) (e:=dx) (by rw[e];exact Zat) (.inr ho) (λ b q hb z=>(sb.2 b hb).trans z) hd ?_
 refine⟨by rw[Jq O.ne];exact ho,?_,O.ne,O'.obj,_,O'.ns,λ g=>?_,λ g hg=>?_⟩
 ·have:=Jhe f y fs;omega
 ·show RelO ((putF f y fs).lookup g) (if g=f then Za u else mA g)
  rw[Jhf]
  by_cases q:g=f
  ·rw[if_pos q,if_pos q];exact ry
  ·rw[if_neg q,if_neg q];exact r g
 ·by_cases q:g=f
  ·rw[q];exact(Jhd f y fs).1
  ·refine(Jhd f y fs).2 g (wi g λ z=>hg ?_)
   show(if g=f then Za u else mA g)=Zc
   rw[if_neg q];exact z
theorem Inv.made (I:Inv X pj σ H s):Inv X pj σ (upd (upd H s.heap.objs.size (.own (s.heap.objs.size+1))) (s.heap.objs.size+1) (.ins C s.heap.objs.size []))
  { s with heap:=(s.heap.push W.emptyDict).push (W.instObj C s.heap.objs.size) }:=by
 have e1:(s.heap.push W.emptyDict).get? s.heap.objs.size=Za W.emptyDict:=Zz s.heap rfl
 have e2:((s.heap.push W.emptyDict).push (W.instObj C s.heap.objs.size)).get? (s.heap.objs.size+1)=Za (W.instObj C s.heap.objs.size):=by
  have:=Zz (s.heap.push W.emptyDict) (o:=W.instObj C s.heap.objs.size) rfl
  rwa [Zc7] at this
 have e3:(s.heap.push W.emptyDict).Ns s.heap.objs.size (λ _=>Zc):=⟨W.emptyDict,#[],_,e1,rfl,(λ e he=>absurd he (by simp)),λ _=>rfl⟩
 have I1:=I.laid (a:=s.heap.objs.size) (o:=.own (s.heap.objs.size+1)) (h':=s.heap.push W.emptyDict) (t':=s.toks) (λ b u q=>Zg _ q) (Zq _) ⟨_,e1⟩
 refine I1.laid (a:=s.heap.objs.size+1) (o:=.ins C s.heap.objs.size []) (t':=s.toks) (λ b u q=>Zg _ q) (Zc8 (Zc7 _ _)) ?_
 have ne:s.heap.objs.size≠s.heap.objs.size+1:=Z8 (Zaz _)
 refine⟨by rw[Jq ne,J7],ZY _,ne,e2,λ _=>Zc,(Heap.Ns1.of_empty e3).at λ o q=>Zg _ q,λ _=>Zat,λ y hy=>absurd rfl hy⟩
theorem Jwk {prog:ZB}{w:Zab}{env:Env}{e:Expr}{f:Str}{pos:Pos}{s:Zm}{Q:QvT}(hb:ZcP e f env (ZaY e env)=ZaY e env)
  (h:Zy (Z9 prog w) A (ZaY e env) (λ o s₁=>Zy (Z9 prog w) A (getAttr o f Zh) Q E s₁) E s):Zy (Z9 prog w) A (ZaY (.Attribute e f pos) env) Q E s :=
 Attribute_any_ h (by rw[arm_eval_Attribute,hb])
end
section
variable {X:Cx}{o e value:Expr}{f:Str}{pos pos' tpos:Pos}{ta tv:TE}
end
section
variable {X:Cx}{pj:PnT}{σ:St}{H:Hp}{s:Zm}{A:ZN}{E:QvT}{Q:QvT}{c:Ze}{b:Bool}
end
structure Room (k:Nat)(A:ZN):Prop where
 hd:A.handled=Zc
 dp:A.depth+3*k+5<recursionLimit
 un:A.units+16*k+200<Zep
theorem Room.mono {j k:Nat}{A:ZN}(r:Room k A)(h:j<=k):Room j A:=⟨r.hd,by have:=r.dp;omega,by have:=r.un;omega⟩
theorem Room.deeper {k:Nat}{A:ZN}(r:Room (k+1) A)(env:Env):Room k (A.deeper env) :=
 ⟨r.hd,by have:=r.dp;show A.depth+1+3*k+5<_;omega,by have:=r.un;show A.units+3+16*k+200<_;omega⟩
theorem Room.in1 {k:Nat}{A:ZN}(r:Room (k+1) A):Room k A.in1 :=
 ⟨r.hd,by have:=r.dp;show A.depth+3*k+5<_;omega,by have:=r.un;show A.units+1+16*k+200<_;omega⟩
theorem Joy {A:ZN}{C:Zp}{us:List Ze}{kw:List (Str×Ze)}:(A.under (.builtin "type.__call__" ⟨.ref C::us,kw⟩)).depth=A.depth+1:=by
 first|rfl|simp[Zez,Code.weight,Code.isCreation,Code.isGuard,Code.isCaller,Code.frames,Ze0,guardIds]
theorem Joz {A:ZN}{C:Zp}{us:List Ze}{kw:List (Str×Ze)}:(A.under (.builtin "type.__call__" ⟨.ref C::us,kw⟩)).units=A.units+1:=by
 first|rfl|simp[Zez,Code.cUnits,Code.frames,Ze0]
theorem Room.make {k:Nat}{A:ZN}(r:Room (k+1) A)(C:Zp)(us:List Ze)(kw:List (Str×Ze)):Room k (A.under (.builtin "type.__call__" ⟨.ref C::us,kw⟩)) :=
 ⟨r.hd,by have:=r.dp;rw[Joy];omega,by have:=r.un;rw[Joz];omega⟩
theorem Room.depth {k:Nat}{A:ZN}(r:Room k A):A.depth<recursionLimit:=by have:=r.dp;omega
theorem Room.units {k:Nat}{A:ZN}(r:Room k A):A.units+64<Zep:=by have:=r.un;omega
section
variable {X:Cx}{e:Expr}{es:List Expr}{te:TE}{t:TA}{pos:Pos}
end
abbrev Sp:=List V->Hp->VK->XK->Prop
abbrev CXT:=List Env->Hp->Zm->XK->QvT
structure Env0 (P:ZB)(w:Zab)(K:W.Frag)(mg:Str->Option Ze)(base:Zax)(A:ZN)(outer:List Env)(s:Zm)(H:Hp):Prop where
 frames:A.frames=Za outer
 mod:Mod K mg base
 bs:∀b o,base.get? b=Za o->s.heap.get? b=Za o/\H b=Zc
 bsz:base.objs.size<=s.heap.objs.size
 funs:s.heap.FunFrames base outer
 frf:∀b∈frs outer,H b=Zc
 hok:HOk P w H s.heap
 bare:Zdc s.gens
def CE (outer:List Env)(P:ZB)(w:Zab)(H:Hp)(s:Zm)(Q:VK)(u:Ze)(s':Zm):Prop :=
 ∃v H',s'.os=s.os/\Zdc s'.gens/\Un (frs outer) [] H H' s.heap s'.heap/\HOk P w H' s'.heap/\RelV v u/\Q v H'
def CR (CX:CXT)(outer:List Env)(P:ZB)(w:Zab)(H:Hp)(s:Zm)(Q:VK)(E:XK)(r:ZdK)(s':Zm):Prop :=
 match r with
 | .ok (.ret u)=>CE outer P w H s Q u s'
 | .ok _=>False
 | .error e=>CX outer H s E e s'
structure FnOk (P:ZB)(w:Zab)(K:W.Frag)(mg:Str->Option Ze)(base:Zax)(CX:CXT)(k:Nat)(f:Zp)(fd:ZaH)(ps:List Str)(sp:Sp):Prop where
 len:∀vs H Q E,sp vs H Q E->vs.length=ps.length
 run:∀(A:ZN)(outer:List Env)(s:Zm)(H:Hp)(args:Args)(us:List Ze)(vs:List V)(Q:VK)(E:XK),Room k A->Env0 P w K mg base A outer s H->Zc9 s fd args (ps.zip us)->Vals vs us->sp vs H Q E ->
  Zcv (Z9 P w) A (.call (.ref f) args) (CR CX outer P w H s Q E) s
theorem FnOk.imp {P:ZB}{w:Zab}{K:W.Frag}{mg:Str->Option Ze}{base:Zax}{CX:CXT}{k:Nat}{f:Zp}{fd:ZaH}{ps:List Str}{sp sp':Sp}(F:FnOk P w K mg base CX k f fd ps sp)
  (h:∀vs H Q E,sp' vs H Q E->sp vs H Q E):FnOk P w K mg base CX k f fd ps sp' :=
 ⟨λ vs H Q E q=>F.len vs H Q E (h _ _ _ _ q),λ A outer s H args us vs Q E hr he hb hv hs=>F.run A outer s H args us vs Q E hr he hb hv (h _ _ _ _ hs)⟩
theorem Env0.make {P:ZB}{w:Zab}{K:W.Frag}{mg:Str->Option Ze}{base:Zax}{A:ZN}{outer:List Env}{s:Zm}{H:Hp}(e:Env0 P w K mg base A outer s H)(C:Zp)(us:List Ze)(kw:List (Str×Ze)) :
  Env0 P w K mg base (A.under (.builtin "type.__call__" ⟨.ref C::us,kw⟩)) outer s H:=⟨by first|exact e.frames|(simpa [Zez,Code.envs,Ze0,pushEnvs] using e.frames),e.mod,e.bs,e.bsz,e.funs,e.frf,e.hok,e.bare⟩
section
variable {X:Cx}{pj:PnT}{σ:St}{H:Hp}{s s':Zm}
theorem Inv.env0 (I:Inv X pj σ H s):Env0 X.prog X.w X.K X.mg X.base X.A X.stack s H :=
 ⟨I.ok.frames,I.ok.mod,I.bs,ZZ I.ok.bsz I.sz,I.stack,I.stkFree,I.hok,I.bare⟩
theorem Inv.after {Q:VK}{u:Ze}(I:Inv X pj σ H s)(h:CE X.stack X.prog X.w H s Q u s'):EP X pj σ Q u s':=by
 obtain⟨v,H',os,bare,un,hok,r,q⟩:=h
 obtain⟨hh,g,d,t,os'⟩:=s'
 obtain rfl:os'=s.os:=os
 exact⟨v,H',I.call (h':=hh) (g':=g) (d':=d) (t':=t) (ch:=[]) un hok bare (λ b z=>absurd z (by simp)),r,q⟩
end
def Qi (K:W.Frag)(fd:ZaH)(ps:List Str)(ds:List Ze):Prop :=
 ∀(s:Zm)(us:List Ze),K.In s.heap->(us++ds).length=ps.length->Zc9 s fd ⟨us,[]⟩ (ps.zip (us++ds))
theorem Qi.all {K:W.Frag}{fd:ZaH}{ps:List Str}(h:∀us:List Ze,us.length=ps.length->ZdZ fd ⟨us,[]⟩=pure (ps.zip us)):Qi K fd ps []:=λ s us _ hl=>by
 rw[Za4] at hl ⊢
 exact .of_eq (h us hl)
section
variable {X:Cx}{CX:CXT}{k:Nat}{f C:Zp}{fd:ZaH}{ps:List Str}{sp:Sp}{dvs:List V}{ds:List Ze}{E:XK}{x m:Str}{p pos apos:Pos}{e o:Expr}{es:List Expr}{ta:TE}{t:TA}
structure Mk (K:W.Frag)(C f:Zp):Prop where
 makes:W.makesIn K C=Zh
 init:W.findIn K (.ref C) "__init__"=Za (Za (.ref f))
 fn:W.isFn K (.ref f)=Zh
 kp:W.keepIn K (.ref C)=Zh
end
section
variable {X:Cx}{CX:CXT}{k:Nat}{f C:Zp}{fd:ZaH}{ps ks:List Str}{sp:Sp}{E:XK}{x m:Str}{p pos apos kpos:Pos}{e o:Expr}{es:List Expr}{kws:List Zej}{te ta:TE}{t tk:TA}{nm:Option Str}
variable {g:List Ze->List Ze->List Ze}{gV:List V->List V->List V}
end
structure FnScope (N P:List Str)(sc:Zbm):Prop where
 kind:sc.kind=.function
 co:sc.isCoroutine=Zk
 gen:sc.isGenerator=Zk
 nd:N.Nodup
 pre:N.take P.length=P
 par:∀x∈P,sc.names.lookup x=Za .local∨sc.names.lookup x=Za .cell
 nofree:∀y∈sc.names,y.2≠.free
theorem Jkh {kindOf:Str->Option Zbj}{x:Str}:∀{binds:List (Str×Ze)}{m:Str->Option Ze},(∀v,(x,v)∉binds)->bindL kindOf binds m x=m x
 | [],_,_=>rfl
 | (n,v)::r,m,h=>by
  unfold bindL
  rw[Jkh λ w hw=>h w (Zn _ hw)]
  split
  ·have:x≠n:=by rintro rfl;exact h v Z4
   simp[this]
  ·rfl
theorem Jkf {kindOf:Str->Option Zbj}{x:Str}:∀{binds:List (Str×Ze)}{m:Str->Option Ze},(∀v,(x,v)∉binds)->bindC kindOf binds m x=m x
 | [],_,_=>rfl
 | (n,v)::r,m,h=>by
  unfold bindC
  rw[Jkf λ w hw=>h w (Zn _ hw)]
  split
  ·rfl
  ·have:x≠n:=by rintro rfl;exact h v Z4
   simp[this]
theorem Jkg {kindOf:Str->Option Zbj}{x:Str}{v:Ze}:∀{P:List Str}{vs:List Ze}{i:Nat}{m:Str->Option Ze},P.Nodup->P[i]?=Za x->vs[i]?=Za v->kindOf x=Za .local ->
  bindL kindOf (P.zip vs) m x=Za v
 | [],_,_,_,_,h,_,_=>by simp at h
 | _::_,[],_,_,_,_,h,_=>by simp at h
 | p::P,w::vs,0,m,nd,h1,h2,hk=>by
  simp at h1 h2;subst h1;subst h2
  show bindL kindOf ((p,w)::P.zip vs) m p=_
  unfold bindL
  rw[Jkh λ v hv=>(Zcw.mp nd).1 (ZdT hv).1,if_pos hk]
  simp
 | p::P,w::vs,i+1,m,nd,h1,h2,hk=>by
  show bindL kindOf ((p,w)::P.zip vs) m x=_
  unfold bindL
  exact Jkg (i:=i) (Zcw.mp nd).2 (by simpa using h1) (by simpa using h2) hk
theorem Jke {kindOf:Str->Option Zbj}{x:Str}{v:Ze}:∀{P:List Str}{vs:List Ze}{i:Nat}{m:Str->Option Ze},P.Nodup->P[i]?=Za x->vs[i]?=Za v->kindOf x≠Za .local ->
  bindC kindOf (P.zip vs) m x=Za v
 | [],_,_,_,_,h,_,_=>by simp at h
 | _::_,[],_,_,_,_,h,_=>by simp at h
 | p::P,w::vs,0,m,nd,h1,h2,hk=>by
  simp at h1 h2;subst h1;subst h2
  show bindC kindOf ((p,w)::P.zip vs) m p=_
  unfold bindC
  rw[Jkf λ v hv=>(Zcw.mp nd).1 (ZdT hv).1,if_neg hk]
  simp
 | p::P,w::vs,i+1,m,nd,h1,h2,hk=>by
  show bindC kindOf ((p,w)::P.zip vs) m x=_
  unfold bindC
  exact Jke (i:=i) (Zcw.mp nd).2 (by simpa using h1) (by simpa using h2) hk
def start (N:List Str)(vs:List V):St:=vs.map Za++ZR (N.length-vs.length) Zc
def cxOf (CX:CXT)(P:ZB)(w:Zab)(K:W.Frag)(mg:Str->Option Ze)(base:Zax)(N:List Str)(qual:Str)(scope:Zbm)(f:Zp)(cd:Ze)(A:ZN)(outer:List Env)(s:Zm)(H:Hp)(E:XK):Cx where
 prog:=P
 w:=w
 K:=K
 mg:=mg
 base:=base
 A:=A.deeper (Zea qual scope s.heap.objs.size f cd)
 N:=N
 s₀:=s
 H₀:=H
 env:=Zea qual scope s.heap.objs.size f cd
 outer:=outer
 stack:=Zea qual scope s.heap.objs.size f cd::outer
 ex:=[]
 calm:=Zh
 fn:=λ _=>Zh
 pn:=[]
 xe:=λ e s'=>Zy (Z9 P w) (A.deeper (Zea qual scope s.heap.objs.size f cd)) (leaving (Zea qual scope s.heap.objs.size f cd) e) (λ _ s''=>CX outer H s E e s'') (λ e' s''=>CX outer H s E e' s'') s'
theorem Jm2 {sc:Zbm}{n:Nat}{x:Str}(h:sc.names.lookup x=Za .cell):∃c,(cellsFrom n sc.names []).lookup x=Za c:=by
 have q:=W.cellsFrom_some sc.names n [] (.inl h)
 exact Zbn.mp q
theorem Jqo {CX:CXT}{P:ZB}{w:Zab}{K:W.Frag}{mg:Str->Option Ze}{base:Zax}{N ps:List Str}{qual:Str}{scope:Zbm}{f:Zp}{cd:Ze}{A:ZN}{outer:List Env}{s s1:Zm}{H:Hp}{E:XK}{us:List Ze}{vs:List V}
  (S:FnScope N ps scope)(hd:A.handled=Zc)(e0:Env0 P w K mg base A outer s H)(hl:vs.length=ps.length)(r:Vals vs us)
  (x:InCallC s s.heap.objs.size (bindL (Zea qual scope s.heap.objs.size f cd).kindOf (ps.zip us) λ _=>Zc) (cellsFrom (s.heap.objs.size+1) scope.names []) (bindC (Zea qual scope s.heap.objs.size f cd).kindOf (ps.zip us) λ _=>Zc) s1) :
  Inv (cxOf CX P w K mg base N qual scope f cd A outer s H E) [] (start N vs) H s1:=by
 have hpl:ps.length<=N.length:=by have:=congrArg List.length S.pre;rw[ZaV] at this;omega
 obtain⟨h1,tk,rfl,hk⟩:=x.done
 have noA:∀b:Zp,b∉(cxOf CX P w K mg base N qual scope f cd A outer s H E).ex:=λ b z=>absurd (show b∈([]:List Zp) from z) (by simp)
 refine⟨⟨e0.mod,S.kind,rfl,rfl,Zq _,λ y z c h1 h2=>?_,λ y hy=>?_,λ y c _ h=>?_,λ _=>hd,Around.frames_deeper e0.frames,.inr ⟨rfl,rfl⟩,λ b z=>absurd z (noA b),e0.bs,e0.bsz,λ b _ _=>noA b,λ b z=>absurd z (noA b),e0.funs,e0.frf⟩,
  rfl,e0.bare,Un.kept hk,⟨_,x.toInCall.ns,λ i y v h1 h2 h3=>?_⟩,λ y c h=>⟨_,x.cell y c h⟩,e0.hok.fresh (Zq _),λ y c h=>?_,λ p hp=>absurd (show p∈([]:PnT) from hp) (by simp),e0.hok.kept hk,?_⟩
 ·exact name_of_addr x.apart (Zak h1) (Zak h2)
 ·have hy:scope.names.lookup y=Za .cell∨scope.names.lookup y=Za .free:=hy
  rcases hy with hy|hy
  ·exact Jm2 hy
  ·exact absurd rfl (S.nofree _ (Zak hy))
 ·exact Zcl (x.above y c (Zak h))
 ·have hi:i<vs.length:=by
   unfold start at h2
   by_cases hi:i<vs.length
   ·exact hi
   ·rw[ZA (by simpa using hi)] at h2
    rw[ZbH] at h2
    split at h2<;>cases h2
  have ha:vs[i]?=Za v:=by
   unfold start at h2
   rw[ZE (by simpa using hi),Z1] at h2
   cases e:vs[i]? with
   | none=>rw[e] at h2;cases h2
   | some a=>rw[e] at h2;cases h2;rfl
  obtain⟨u,hu,rv⟩:=r.get ha
  have hp:ps[i]?=Za y:=by
   rw[<- S.pre,List.getElem?_take_of_lt (by omega)];exact h1
  have ndP:ps.Nodup:=by rw[<- S.pre];exact S.nd.sublist (List.take_sublist _ _)
  refine⟨u,rv,?_⟩
  rcases S.par y (Zb5 hp) with k|k
  ·exact .inl ⟨k,Jkg ndP hp hu k⟩
  ·obtain⟨c,e⟩:=Jm2 (n:=s.heap.objs.size+1) k
   refine .inr ⟨.inl k,c,e,?_⟩
   have q:=x.cell y c e
   rw[Jke ndP hp hu (by show scope.names.lookup y≠_;rw[k];decide)] at q
   exact q
 ·exact e0.hok.fresh (Zcl (x.above y c (Zak h)))
 ·unfold start
  show _=N.length
  rw[Zx,Zj,Zb0]
  omega
theorem J14 {CX:CXT}{P:ZB}{w:Zab}{K:W.Frag}{mg:Str->Option Ze}{base:Zax}{k:Nat}{f:Zp}{name qual:Str}{params:Zca}{body:List Zdh}{scope:Zbm}{dV kV doc pm cdv ct oc:Ze}{an od:Option Zp}
  {osl:Array (Option Ze)}{N ps:List Str}{sp:Sp}(lk:K.lookup f=Za ⟨oc,od,.func (W.fnOf name qual params body scope dV kV doc pm an cdv ct),osl⟩)(hcd:W.codeIn K cdv qual=Zh)(S:FnScope N ps scope)
  (len:∀vs H Q E,sp vs H Q E->vs.length=ps.length)
  (hbody:∀(A:ZN)(outer:List Env)(s:Zm)(H:Hp)(vs:List V)(Q:VK)(E:XK),Room k (A.deeper (Zea qual scope s.heap.objs.size f cdv))->sp vs H Q E ->
   ∃t,PSs (cxOf CX P w K mg base N qual scope f cdv A outer s H E) body t/\t { nx:=λ _ H'=>Q .non H',rt:=Q } (start N vs) H) :
  FnOk P w K mg base CX (k+1) f (W.fnOf name qual params body scope dV kV doc pm an cdv ct) ps sp:=by
 refine⟨len,λ A outer s H args us vs Q E hr e0 hb r hsp=>?_⟩
 have hl:=len _ _ _ _ hsp
 have KX:K.In s.heap:=e0.mod.kin.keeps λ b o e=>(e0.bs b o e).1
 have lim:s.heap.NoLimit:=e0.mod.nolimit.keeps λ b o e=>(e0.bs b o e).1
 have hkind:∀y∈ps.zip us,scope.names.lookup y.1=Za .local∨(scope.names.lookup y.1=Za .cell/\((cellsFrom (s.heap.objs.size+1) scope.names []).lookup y.1).isSome=Zh):=λ ⟨n,v⟩ hy=>by
  rcases S.par n (ZdT hy).1 with q|q
  ·exact .inl q
  ·exact .inr ⟨q,W.cellsFrom_some _ _ _ (.inl q)⟩
 refine codeAny_call_function hr.depth (KX _ _ lk) rfl S.co S.gen rfl (W.codeRec_of KX hcd) (hb _ _ _ _ ?_)
 refine wpAny_newFunctionEnv_cells S.kind hkind λ env he s1 x=>?_
 subst he
 refine⟨lim.keeps x.toInCall.keep,codeAny_func ?_⟩
 obtain⟨t,ht,hq⟩:=hbody A outer s H vs Q E (hr.deeper _) hsp
 have I:Inv (cxOf CX P w K mg base N qual scope f cdv A outer s H E) [] (start N vs) H s1:=Jqo S hr.hd e0 hl r x
 refine Zap (ht [] s1 (start N vs) H _ I hq) (λ fl s' hs=>?_) λ e s' hs=>hs
 have fin:∀{σ':St}{H':Hp}{v:V}{u:Ze},Inv (cxOf CX P w K mg base N qual scope f cdv A outer s H E) [] σ' H' s'->RelV v u->Q v H'->CE outer P w H s Q u s' :=
  λ {σ' H' v u} J rv q=>⟨v,H',J.os,J.bare,J.base,J.hok,rv,q⟩
 cases fl with
 | ret u =>
  obtain⟨v,σ',H',J,rv,q⟩:=hs
  exact fin J rv q
 | next =>
  obtain⟨σ',H',J,q⟩:=hs
  exact fin (v:=V.non) (u:=Zaa) J rfl q
 | brk =>
  obtain⟨_,_,_,q⟩:=hs
  exact Zbs q
 | cont =>
  obtain⟨_,_,_,q⟩:=hs
  exact Zbs q
section
variable {X:Cx}{x:Str}{p pos:Pos}{e:Expr}{es:List Expr}{t:TA}{id T:String}{r:List V->Hp->VK->Prop}
end
end L2
namespace HT
open PySem PyProof.Rows
section
open PySem.SeqAt
open PySem.AutoSeq1 (wpAny_loadPart')
open PySem.MeetsSeq PySem.MeetsSeq2 PySem.MeetsSeq3
end
section
variable {prog:ZB}{w:Zab}{A:ZN}{E:QvT}{s:Zm}
theorem cat_tup {t b:Zp}{vs ws:List Ze}{Q:QvT}(ht:IsTup s.heap t vs.toArray)(hb:IsTup s.heap b ws.toArray)(hv:vs≠[])
  (h1:ws=[]->Q (.ref t) s)(h2:ws≠[]->Q (.ref s.heap.objs.size) { s with heap:=s.heap.push { cls:=.type "tuple",data:=.seq (vs++ws).toArray } })
  (hsz:vs.length+ws.length<=sizeLine):Zy (Z9 prog w) A (ZaU .Add (.ref t) (.ref b)) Q E s:=by
 obtain⟨⟨cls,dd,data,sl⟩,ho,hc,n,hd⟩:=id ht
 obtain⟨⟨cls2,dd2,data2,sl2⟩,ho2,hc2,n2,hd2⟩:=id hb
 simp only at hc hd hc2 hd2
 subst hc hd hc2 hd2
 have e:vs.toArray++ws.toArray=(vs++ws).toArray:=by simp
 by_cases hw:ws=[]
 ·exact concat_meets ⟨_,ho,rfl⟩ ⟨_,ho2,rfl⟩ noFill_tuple_add seq_tuple_add ZdL Zd5 (Zdw _ _)
   (tuple_addW1 t b vs.toArray ws.toArray n n2 dd dd2 sl sl2 (by simpa using hv) (by simp[hw])) ⟨ho,ho2,h1 hw⟩
 ·refine concat_meets ⟨_,ho,rfl⟩ ⟨_,ho2,rfl⟩ noFill_tuple_add seq_tuple_add ZdL Zd5 (Zdw _ _)
   (tuple_addW2 t b vs.toArray ws.toArray n n2 dd dd2 sl sl2 (by simpa using hv) (by simpa using hw) (by rw[Zu,Zu];exact hsz)) ⟨ho,ho2,?_⟩
  rw[e]
  exact h2 hw
def sIx (n d:Nat):Option Int->Nat
 | none=>d
 | some v=>if v<0 then(v+(n:Int)).toNat else min v.toNat n
theorem sIx_none (n d:Nat):sIx n d Zc=d:=rfl
theorem sIx_nat (n d k:Nat):sIx n d (Za (k:Int))=min k n:=by
 show(if (k:Int)<0 then((k:Int)+(n:Int)).toNat else min (k:Int).toNat n)=min k n
 rw[if_neg (by omega),ZaZ]
end
end HT
namespace L2
open PySem PySem.Spec PyProof.Rows
abbrev TO:=St->Hp->(Option Int->Hp->Prop)->Prop
section
variable {X:Cx}{e:Expr}{te:TE}{lo hi:Option Expr}{tl th:TO}{pos p2:Pos}
def SlR (X:Cx)(r:V->Option Int->Option Int->Hp->VK->Prop):Prop :=
 ∀(pj:PnT)(s:Zm)(σ:St)(H:Hp)(x:V)(v vl vu:Ze)(lo hi:Option Int)(sl:Zp)(Q:VK),Inv X pj σ H s->RelV x v->s.heap.IsSliceOf sl vl vu .none->Ze8 vl lo->Ze8 vu hi->r x lo hi H Q ->
  ∃T id,typeLookup (.type T) "__getitem__"=pure (Za (.builtin id))/\s.TypeIs v T/\Zy (Z9 X.prog X.w) X.A (ZdM v (.ref sl)) (EP X pj σ Q) X.xe s
def cutV (xs:List V)(lo hi:Option Int):List V:=(xs.drop (HT.sIx xs.length 0 lo)).take (HT.sIx xs.length xs.length hi-HT.sIx xs.length 0 lo)
theorem Jl6 (xs:List V)(lo hi:Option Int):(cutV xs lo hi).length<=xs.length:=by
 unfold cutV
 rw[ZaV,ZbI]
 omega
def J23 (K:W.Frag):R2:=λ x y H Q=>∃a b xs ys,x=.ref a/\y=.ref b/\SqT K H a xs/\SqT K H b ys/\xs≠[]/\xs.length+ys.length<=sizeLine /\
 (ys=[]->Q (.ref a) H)/\(ys≠[]->∀p,H p=Zc->Q (.ref p) (upd H p (.tup (xs++ys))))
theorem Vals.nil_iff {xs:List V}{us:List Ze}(r:Vals xs us):us=[]↔xs=[]:=by
 cases r with
 | nil=>simp
 | cons _ _=>simp
theorem Jxt:OpR X (ZaU .Add) (J23 X.K):=by
 intro pj s σ H x y v u Q I rx ry h
 obtain⟨a,b,xs,ys,rfl,rfl,ha,hb,hx,hz,q1,q2⟩:=h
 cases rx
 cases ry
 obtain⟨its,r1,p1,_⟩:=I.tuple ha
 obtain⟨its2,r2,p2,_⟩:=I.tuple hb
 refine HT.cat_tup p1 p2 (λ z=>hx (r1.nil_iff.mp z)) (λ z=>⟨.ref a,H,I,rfl,q1 (r2.nil_iff.mp z)⟩) (λ z=>?_) (by rw[<- r1.length,<-r2.length];exact hz)
 refine⟨.ref s.heap.objs.size,_,I.laid (t':=s.toks) (o:=.tup (xs++ys)) (λ b ob q=>Zg _ q) (Zq _) ?_,rfl,q2 (λ w=>z (r2.nil_iff.mpr w)) _ (I.hok.fresh (Zq _))⟩
 exact⟨by rw[Zx];exact hz,_,r1.append r2,IsTup.new _ _⟩
end
noncomputable def ixN (n:Nat)(i:Int):Option Nat:=if 0<=i then(if i<n then Za i.toNat else Zc) else if -(n:Int)<=i then Za (i+n).toNat else Zc
noncomputable def atI {α:Type}(xs:List α)(i:Int):Option α:=(ixN xs.length i).bind λ j=>xs[j]?
theorem Jqs {n:Nat}{i:Int}{j:Nat}(h:ixN n i=Za j):seqIndex? i n=Za j/\j<n/\ -(n:Int)<=i/\i<n:=by
 unfold ixN at h
 by_cases h0:0<=i
 ·rw[if_pos h0] at h
  by_cases h1:i<n
  ·rw[if_pos h1] at h
   have e:i.toNat=j:=Zao h
   exact⟨by rw[Zeb h0 h1,e],by omega,by omega,h1⟩
  ·rw[if_neg h1] at h;cases h
 ·rw[if_neg h0] at h
  by_cases h1: -(n:Int)<=i
  ·rw[if_pos h1] at h
   have e:(i+n).toNat=j:=Zao h
   exact⟨by rw[Ze1 (by omega) h1,e],by omega,h1,by omega⟩
  ·rw[if_neg h1] at h;cases h
theorem Jiu {α:Type}{xs:List α}{i:Int}{v:α}(h:atI xs i=Za v):∃j,seqIndex? i xs.length=Za j/\xs[j]?=Za v/\j<xs.length/\ -(xs.length:Int)<=i/\i<xs.length:=by
 unfold atI at h
 cases e:ixN xs.length i with
 | none=>rw[e] at h;cases h
 | some j =>
  rw[e] at h
  obtain⟨h1,h2,h3,h4⟩:=Jqs e
  exact⟨j,h1,h,h2,h3,h4⟩
def Jpi (b:Expr):Prop:=∀o i,Zec b Zk o i=operate [o,i] (ZdM o i)
def IxR (X:Cx)(r:R2):Prop :=
 ∀(value slice:Expr)(pj:PnT)(s:Zm)(σ:St)(H:Hp)(x y:V)(v u:Ze)(Q:VK),Inv X pj σ H s->RelV x v->RelV y u->r x y H Q ->
  Zec slice Zk v u=operate [v,u] (ZdM v u)->Zy (Z9 X.prog X.w) X.A (Zdx value slice v u) (EP X pj σ Q) X.xe s
section
variable {X:Cx}{a b:Expr}{ta tb:TE}{pos:Pos}
def rIxL (K:W.Frag):R2:=λ x y H Q=>∃p xs i v,x=.ref p/\y=.int i/\SqL K H p xs/\atI xs i=Za v/\Q v H
def rIxT (K:W.Frag):R2:=λ x y H Q=>∃p xs i v,x=.ref p/\y=.int i/\SqT K H p xs/\atI xs i=Za v/\Q v H
def rIxS:R2:=λ x y H Q=>∃z i c,x=.str z/\y=.int i/\z.length<=sizeLine/\atI z.cps.toList i=Za c/\Q (.str ⟨#[c]⟩) H
theorem Jqt:IxR X (rIxL X.K):=by
 intro value slice pj s σ H x y v u Q I rx ry h hs
 obtain⟨p,xs,i,z,rfl,rfl,hq,he,q⟩:=h
 cases rx
 obtain⟨t,rfl⟩:=ry
 obtain⟨its,r,pl,hz⟩:=I.list hq
 obtain⟨j,h1,h2,h3,h4,h5⟩:=Jiu he
 obtain⟨w,ew,rw'⟩:=r.get h2
 have hl:=r.length
 have hn:=VY
 have fin:EP X pj σ Q w s:=⟨z,H,I,rw',q⟩
 by_cases h0:0<=i
 ·have hj:i.toNat=j:=by
   rw[Zeb h0 h5] at h1
   exact Zao h1
  exact item_listR pl.isList h0 (by omega) (by rw[hj];simpa using ew) fin hs
 ·have hj:(i+(its.toArray.size:Int)).toNat=j:=by
   rw[Ze1 (by omega) h4] at h1
   rw[Zu,<-hl]
   exact Zao h1
  exact ZcA (x:=w) pl.isList.typeIs slot_list_getitem.lookup
   (wpAny_getItem_list_neg (Q:=λ r s'=>r=w/\EP X pj σ Q r s') pl.isList (by omega) (by rw[Zu]<;>omega) (by omega) (by rw[hj];simpa using ew) ⟨rfl,fin⟩) hs
theorem Jzy:IxR X (rIxT X.K):=by
 intro value slice pj s σ H x y v u Q I rx ry h hs
 obtain⟨p,xs,i,z,rfl,rfl,hq,he,q⟩:=h
 cases rx
 obtain⟨t,rfl⟩:=ry
 obtain⟨its,r,pl,hz⟩:=I.tuple hq
 obtain⟨j,h1,h2,h3,h4,h5⟩:=Jiu he
 obtain⟨w,ew,rw'⟩:=r.get h2
 have hl:=r.length
 have hn:=VY
 have fin:EP X pj σ Q w s:=⟨z,H,I,rw',q⟩
 exact ZcA (x:=w) pl.typeIs slot_tuple_getitem.lookup
  (getItem_tuple (j:=j) (Q:=λ r s'=>r=w/\EP X pj σ Q r s') pl (by omega) (by omega) (by rw[Zu,<-hl];exact h1) (by simpa using ew) ⟨rfl,fin⟩) hs
theorem Jzx:IxR X rIxS:=by
 intro value slice pj s σ H x y v u Q I rx ry h hs
 obtain⟨z,i,c,rfl,rfl,hz,he,q⟩:=h
 obtain⟨t,rfl⟩:=rx
 obtain⟨t',rfl⟩:=ry
 obtain⟨j,h1,h2,h3,h4,h5⟩:=Jiu he
 have hl:z.cps.toList.length=z.length:=by simp[Zev]
 rw[hl] at h1 h4 h5
 have hn:=VY
 exact tail_any (typeIs_str s z t) slot_str_getitem.lookup (getItem_str (c:=c) (by
  have e1:decide (i< -(2^63:Int))=Zk:=decide_eq_false (by omega)
  have e2:decide (i ≥ 2^63)=Zk:=decide_eq_false (by omega)
  rw[e1,e2,Bool.or_false]) (by rw[h1];simpa using h2) ⟨.str ⟨#[c]⟩,H,I.tok _,⟨_,rfl⟩,q⟩) hs
theorem Jo0 (its:List Ze)(n j:Nat)(u:Ze):Zac (·.setIfInBounds j u) { cls:=.type "list",data:=.seq its.toArray n }={ cls:=.type "list",data:=.seq (its.set j u).toArray n }:=by
 simp[Zac]
theorem Inv.lst {pj:PnT}{σ:St}{H:Hp}{s:Zm}{p:Zp}{xs:List V}(I:Inv X pj σ H s)(h:H p=Za (.lst xs)) :
  ∃(its:List Ze) (n:Nat),Vals xs its/\s.heap.get? p=Za { cls:=.type "list",data:=.seq its.toArray n }/\xs.length<=sizeLine:=by
 obtain⟨z,its,n,r,e⟩:=I.hok p _ h
 exact⟨its,n,r,e,z⟩
theorem Inv.lstUpd {pj:PnT}{σ:St}{H:Hp}{s:Zm}{p:Zp}{xs ys:List V}{its its':List Ze}{n n':Nat}{f:Obj->Obj}(I:Inv X pj σ H s)(h:H p=Za (.lst xs))
  (ho:s.heap.get? p=Za { cls:=.type "list",data:=.seq its.toArray n })(hf:f { cls:=.type "list",data:=.seq its.toArray n }={ cls:=.type "list",data:=.seq its'.toArray n' })(r:Vals ys its')(hz:ys.length<=sizeLine)(t:Nat) :
  Inv X pj σ (upd H p (.lst ys)) { s with heap:=s.heap.update p f,toks:=t }:=by
 have e:(s.heap.update p f).get? p=Za { cls:=.type "list",data:=.seq its'.toArray n' }:=by
  rw[Za9 f ho (by rw[hf]<;>rfl),hf]
 refine I.write (x:=p) (e:=p) (by rw[h];trivial) (.inl rfl) (λ b u hb q=>(Zs _ _ (ZI hb)).trans q) ⟨_,e⟩ ?_
 exact⟨hz,its',n',r,e⟩
def J24:V->V->V->Hp->(Hp->Prop)->Prop:=λ o i v H Q=>∃p xs k j,o=.ref p/\i=.int k/\H p=Za (.lst xs)/\ixN xs.length k=Za j/\Q (upd H p (.lst (xs.set j v)))
theorem Jt6:PSet X J24:=by
 intro pj s σ H o i v ov iv u Q I ro ri rv h
 obtain⟨p,xs,k,j,rfl,rfl,hp,hj,q⟩:=h
 cases ro
 obtain⟨t,rfl⟩:=ri
 obtain⟨its,n,r,ho,hz⟩:=I.lst hp
 obtain⟨h1,h2,h3,h4⟩:=Jqs hj
 have hl:=r.length
 have hn:=VY
 have I':Inv X pj σ (upd H p (.lst (xs.set j v))) { s with heap:=s.heap.update p (Zac (·.setIfInBounds j u)) } :=
  I.lstUpd hp ho (Jo0 its n j u) (r.set rv j) (by rw[Zbt];exact hz) s.toks
 by_cases h0:0<=k
 ·have hk:k.toNat=j:=by
   rw[Zeb h0 h4] at h1
   exact Zao h1
  exact W.ki_setAt ho h0 (by omega) (by rw[Zu,<-hl];exact h4) (by rw[hk];exact⟨_,I',q⟩)
 ·have hk:(k+(its.toArray.size:Int)).toNat=j:=by
   rw[Ze1 (by omega) h3] at h1
   rw[Zu,<-hl]
   exact Zao h1
  exact W.ki_setBack ho (by omega) (by rw[Zu,<-hl];exact h3) (by omega) (by rw[hk];exact⟨_,I',q⟩)
theorem Jlt (lo hi:Option Int)(n:Nat):(Zc1 lo hi Zc n).1=((HT.sIx n 0 lo:Nat):Int)/\(Zc1 lo hi Zc n).2.1=((HT.sIx n n hi:Nat):Int)/\(Zc1 lo hi Zc n).2.2=1:=by
 refine⟨?_,?_,rfl⟩
 ·cases lo with
  | none=>simp[Zc1,HT.sIx]
  | some i =>
   simp only[Zc1,HT.sIx,Option.getD_none,show(1:Int)>0 by decide,if_true]
   by_cases h:i<0
   ·simp only[h,if_true]<;>omega
   ·simp only[h,if_false]<;>omega
 ·cases hi with
  | none=>simp[Zc1,HT.sIx]
  | some i =>
   simp only[Zc1,HT.sIx,Option.getD_none,show(1:Int)>0 by decide,if_true]
   by_cases h:i<0
   ·simp only[h,if_true]<;>omega
   ·simp only[h,if_false]<;>omega
theorem Jju (its:List Ze)(lo hi:Option Int):slicePick its.toArray lo hi Zc=((its.drop (HT.sIx its.length 0 lo)).take (HT.sIx its.length its.length hi-HT.sIx its.length 0 lo)).toArray:=by
 obtain⟨h1,h2,h3⟩:=Jlt lo hi its.toArray.size
 unfold slicePick
 rw[h1,h2,h3]
 simp only[sliceRange_one,pick_run,Zu]<;>rfl
def rSlL (K:W.Frag):V->Option Int->Option Int->Hp->VK->Prop:=λ x lo hi H Q=>∃a xs,x=.ref a/\SqL K H a xs/\∀p,H p=Zc->Q (.ref p) (upd H p (.lst (cutV xs lo hi)))
theorem Jrp:SlR X (rSlL X.K):=by
 intro pj s σ H x v vl vu lo hi sl Q I rx hs pl pu h
 obtain⟨a,xs,rfl,hx,q⟩:=h
 cases rx
 obtain⟨its,r,ht,hz⟩:=I.list hx
 have hlen:=r.length
 refine⟨"list",_,slot_list_getitem.lookup,ht.isList.typeIs,?_⟩
 refine wpAny_getItem_list_slice ht.isList hs pl pu .none (by simp) ?_ (by rw[Zu]<;>omega)
 rw[Jju,<-hlen]
 refine⟨.ref s.heap.objs.size,_,I.laid (t':=s.toks) (o:=.lst (cutV xs lo hi)) (λ b ob q=>Zg _ q) (Zq _) ?_,rfl,q _ (I.hok.fresh (Zq _))⟩
 exact⟨ZZ (Jl6 xs lo hi) hz,_,0,(r.drop (HT.sIx xs.length 0 lo)).take (HT.sIx xs.length xs.length hi-HT.sIx xs.length 0 lo),Zz _ rfl⟩
theorem Jcx:Xm X (.type "list") (λ xs H Q=>∃p ys,xs=[.ref p]/\(SqL X.K H p ys∨SqT X.K H p ys)/\∀l,H l=Zc->Q (.ref l) (upd H l (.lst ys))):=by
 intro pj s σ H xs us Q I r h
 obtain⟨p,ys,rfl,hq,q⟩:=h
 obtain⟨u,rfl,rx⟩:=QN r
 cases rx
 have fin:∀(its:List Ze),Vals ys its->ys.length<=sizeLine->∀(h':Zax)(c':Nat),(∀b o',s.heap.get? b=Za o'->h'.get? b=Za o') ->
   h'.get? s.heap.objs.size=Za { cls:=.type "list",dict:=Zc,data:=.seq its.toArray c',slots:=#[] }->EP X pj σ Q (.ref s.heap.objs.size) { s with heap:=h' }:=λ its r' hz h' c' kp e =>
  ⟨.ref s.heap.objs.size,_,I.laid (t':=s.toks) kp (Zq _) (show JG X.prog X.w _ h' _ (.lst ys) from⟨hz,its,c',r',e⟩),rfl,q _ (I.hok.fresh (Zq _))⟩
 rcases hq with hq|hq
 ·obtain⟨its,r',pl,hz⟩:=I.list hq
  have hlen:=r'.length
  obtain⟨o,ho,hc,n,hd⟩:=pl.isList
  exact call_list_seq p (.inl rfl) ho hc hd (λ h' c' kp e=>fin its r' hz h' c' kp e) (by simp only[Zu]<;>omega)
 ·obtain⟨its,r',pl,hz⟩:=I.tuple hq
  have hlen:=r'.length
  obtain⟨o,ho,hc,n,hd⟩:=pl
  exact call_list_seq p (.inr rfl) ho hc hd (λ h' c' kp e=>fin its r' hz h' c' kp e) (by simp only[Zu]<;>omega)
theorem Jet:Xm X (.type "tuple") (λ xs H Q=>∃p ys,xs=[.ref p]/\((SqL X.K H p ys/\∀l,H l=Zc->Q (.ref l) (upd H l (.tup ys)))∨(SqT X.K H p ys/\Q (.ref p) H))):=by
 intro pj s σ H xs us Q I r h
 obtain⟨p,ys,rfl,h⟩:=h
 obtain⟨u,rfl,rx⟩:=QN r
 cases rx
 rcases h with⟨hq,q⟩|⟨hq,q⟩
 ·obtain⟨its,r',pl,hz⟩:=I.list hq
  have hlen:=r'.length
  refine call_tuple_list pl.isList (λ h' kp=>?_) (by simp only[Zu]<;>omega)
  have I1:Inv X pj σ H { s with heap:=h' }:=I.kept (t':=s.toks) kp
  have I2:Inv X pj σ (upd H h'.objs.size (.tup ys)) { s with heap:=h'.push { cls:=.type "tuple",data:=.seq its.toArray } } :=
   I1.laid (t':=s.toks) (λ b o e=>Zg _ e) (Zq _) (show JG X.prog X.w _ _ _ (.tup ys) from⟨hz,its,r',IsTup.new _ _⟩)
  exact⟨.ref h'.objs.size,_,I2,rfl,q _ (I1.hok.fresh (Zq _))⟩
 ·obtain⟨its,r',pl,hz⟩:=I.tuple hq
  exact call_tuple_same pl ⟨.ref p,H,I,rfl,q⟩
def tyV (K:W.Frag)(T:String)(x:V)(H:Hp):Prop:=match x with
 | .str _=>T="str"
 | .int _=>T="int"
 | .ref p=>(T="list"/\∃xs,SqL K H p xs)∨(T="tuple"/\∃o,K.lookup p=Za o/\o.cls=.type "tuple"/\o.dict=Zc) ∨
   (T="dict"/\((∃kvs,H p=Za (.dK kvs))∨∃kvs,H p=Za (.dT kvs)))∨(T="set"/\∃S n,H p=Za (.set S n))
 | _=>False
theorem Jv6 {pj:PnT}{σ:St}{H:Hp}{s:Zm}{T:String}{x:V}{v:Ze}(I:Inv X pj σ H s)(r:RelV x v)(ty:tyV X.K T x H) :
  s.TypeIs v T/\∀a,v=.ref a->∃ob,s.heap.get? a=Za ob/\ob.dict=Zc:=by
 cases x with
 | str z =>
  obtain⟨t,rfl⟩:=r
  cases (show T="str" from ty)
  exact⟨typeIs_str s z t,λ _ e=>nomatch e⟩
 | int i =>
  obtain⟨t,rfl⟩:=r
  cases (show T="int" from ty)
  exact⟨typeIs_int s i t,λ _ e=>nomatch e⟩
 | ref p =>
  cases r
  rcases ty with⟨rfl,xs,hq⟩|⟨rfl,o,hk,hc,hd⟩|⟨rfl,hk⟩|⟨rfl,S,n,hk⟩
  ·obtain⟨its,_,pl,_⟩:=I.list hq
   refine⟨pl.isList.typeIs,λ a e=>?_⟩
   cases e
   obtain⟨o,n,e,c,hd,_⟩:=pl
   exact⟨o,e,hd⟩
  ·refine⟨⟨o,I.kIn p o hk,hc⟩,λ a e=>?_⟩
   cases e
   exact⟨o,I.kIn _ o hk,hd⟩
  ·have z:∃o,s.heap.get? p=Za o/\o.ExactDict:=by
    rcases hk with⟨kvs,hk⟩|⟨kvs,hk⟩
    ·obtain⟨_,_,_,_,o,_,_,e,ex,_⟩:=I.hok p _ hk
     exact⟨o,e,ex⟩
    ·obtain⟨_,_,_,_,o,_,_,e,ex,_⟩:=I.hok p _ hk
     exact⟨o,e,ex⟩
   obtain⟨o,e,ex⟩:=z
   refine⟨⟨o,e,ex.1⟩,λ a e2=>?_⟩
   cases e2
   exact⟨o,e,ex.2.1⟩
  ·obtain⟨o,_,_,_,e,ex,_⟩:=I.hok p _ hk
   refine⟨⟨o,e,ex.1⟩,λ a e2=>?_⟩
   cases e2
   exact⟨o,e,ex.2.1⟩
 | _=>exact Zbs ty
variable {o e:Expr}{es:List Expr}{to:TE}{t:TA}{name:Str}{apos cpos:Pos}{T id:String}{r:V->List V->Hp->VK->Prop}
end
def MtM (X:Cx)(id:String)(r:V->List V->Hp->VK->Prop):Prop :=
 ∀(pj:PnT)(s:Zm)(σ:St)(H:Hp)(x:V)(xs:List V)(v:Ze)(us:List Ze)(Q:VK),Inv X pj σ H s->RelV x v->Vals xs us->r x xs H Q ->
  Zy (Z9 X.prog X.w) X.A (call (.builtin id) (v::us)) (EP X pj σ Q) X.xe s
theorem Vals.one:∀{x:V}{us:List Ze},Vals [x] us->∃u,us=[u]/\RelV x u
 | _,_,.cons r .nil=>⟨_,rfl,r⟩
theorem Vals.zero:∀{us:List Ze},Vals [] us->us=[]
 | _,.nil=>rfl
theorem Vals.dropLast {xs:List V}{us:List Ze}(h:Vals xs us):Vals xs.dropLast us.dropLast:=by
 induction h with
 | nil=>exact .nil
 | cons r t ih =>
  cases t with
  | nil=>exact .nil
  | cons q t'=>exact .cons r ih
theorem Vals.eraseIdx:∀{xs:List V}{us:List Ze}(i:Nat),Vals xs us->Vals (xs.eraseIdx i) (us.eraseIdx i)
 | _,_,_,.nil=>.nil
 | _,_,0,.cons _ t=>t
 | _,_,i+1,.cons r t=>.cons r (Vals.eraseIdx i t)
theorem Vals.reverse {xs:List V}{us:List Ze}(h:Vals xs us):Vals xs.reverse us.reverse:=by
 induction h with
 | nil=>exact .nil
 | cons r t ih=>rw[Zbr,Zbr];exact Vals.append ih (.cons r .nil)
theorem Vals.rep {xs:List V}{us:List Ze}(h:Vals xs us):∀k:Nat,Vals (ZR k xs).flatten (ZR k us).flatten
 | 0=>.nil
 | k+1=>by
  rw[Zbg,Zbg,Zb6,Zb6]
  exact Vals.append h (Vals.rep h k)
theorem Jog {α:Type}(l:List α):l.eraseIdx (l.length-1)=l.dropLast:=by
 induction l with
 | nil=>rfl
 | cons a r ih =>
  cases r with
  | nil=>rfl
  | cons b r =>
   have e:(a::b::r).length-1=((b::r).length-1)+1:=by
    have h1:(a::b::r).length=r.length+2:=rfl
    have h2:(b::r).length=r.length+1:=rfl
    omega
   rw[e,List.eraseIdx_cons_succ,ih]
   all_goals rfl
theorem Jk6 {α:Type}:∀(l:List α)(i:Nat),(l.eraseIdx i).length<=l.length
 | [],_=>Zq _
 | _::_,0=>ZaL _
 | _::r,i+1=>ZcK (Jk6 r i)
theorem Jkq (its:List Ze):∀(k:Nat)(acc:List Ze),
  List.foldl (λ x1 x2=>x1++x2) acc.toArray (ZR k its.toArray)=(acc++(ZR k its).flatten).toArray
 | 0,acc=>by simp
 | k+1,acc=>by
  have e:acc.toArray++its.toArray=(acc++its).toArray:=by simp
  have e2:(acc++its)++(ZR k its).flatten=acc++(ZR (k+1) its).flatten:=by
   rw[Zbg,Zb6,Zad]
  rw[<- e2,<-Jkq its k (acc++its),<-e,Zbg,List.foldl_cons]
section
variable {X:Cx}{pj:PnT}{σ:St}{H:Hp}{s:Zm}{l b:Zp}{xs ys zs:List V}
theorem Inv.lset {its its':List Ze}{n:Nat}{f:Array Ze->Array Ze}{t':Nat}(I:Inv X pj σ H s)(hH:H l=Za (.lst xs))
  (e:s.heap.get? l=Za { cls:=.type "list",data:=.seq its.toArray n })(hf:f its.toArray=its'.toArray)(hv:Vals ys its')(hz:ys.length<=sizeLine) :
  Inv X pj σ (upd H l (.lst ys)) { s with heap:=s.heap.update l (Zac f),toks:=t' }:=by
 have q:=PySem.IsL.update e f
 rw[hf] at q
 refine I.write (x:=l) (e:=l) (by rw[hH];exact trivial) (.inl rfl) (λ b' u hb hu=>(Zs s.heap (Zac f) (ZI hb)).trans hu) ⟨_,q⟩ ?_
 exact⟨hz,its',_,hv,q⟩
theorem Inv.lnew {its:List Ze}{t':Nat}(I:Inv X pj σ H s)(hv:Vals ys its)(hz:ys.length<=sizeLine) :
  Inv X pj σ (upd H s.heap.objs.size (.lst ys)) { s with heap:=s.heap.push { cls:=.type "list",data:=.seq its.toArray },toks:=t' } :=
 I.laid (λ _ _ q=>Zg _ q) (Zq _) ⟨hz,its,0,hv,Zz _ rfl⟩
theorem Inv.fresh (I:Inv X pj σ H s):H s.heap.objs.size=Zc:=I.hok.fresh (Zq _)
theorem Inv.lstM (I:Inv X pj σ H s)(hH:H l=Za (.lst xs)):xs.length<=sizeLine/\∃(its:List Ze) (n:Nat),Vals xs its/\xs.length=its.length/\s.heap.get? l=Za { cls:=.type "list",data:=.seq its.toArray n }:=by
 obtain⟨z,its,n,r,e⟩:=I.hok l _ hH
 exact⟨z,its,n,r,r.length,e⟩
theorem Jna {n:Nat}(h:n<=sizeLine):ZbA n=Zk:=by
 unfold ZbA
 exact decide_eq_false (by omega)
end
section
variable {X:Cx}
def Jxy:V->List V->Hp->VK->Prop:=λ x vs H Q=>∃l xs y,x=.ref l/\vs=[y]/\H l=Za (.lst xs)/\xs.length<sizeLine/\Q .non (upd H l (.lst (xs++[y])))
theorem Jk9:MtM X "list.append" Jxy:=by
 intro pj s σ H x vs v us Q I rx rv h
 obtain⟨l,xs,y,rfl,rfl,hH,hz,q⟩:=h
 cases rx
 obtain⟨u,rfl,ru⟩:=rv.one
 obtain⟨z,its,n,r,hl,e⟩:=I.lstM hH
 refine Zdj F.slot_list_append ⟨_,e,rfl⟩ F.entry_list_append (F.args_list_append_2 _ _) (PySem.list_append l its.toArray n u (by rw[Zu];omega)) ⟨e,?_⟩
 refine⟨.non,_,I.lset (its':=its++[u]) hH e (by simp) (r.append (.cons ru .nil)) ?_,rfl,q⟩
 rw[Zx,ZaA]
 omega
def Jxz:V->List V->Hp->VK->Prop:=λ x vs H Q=>∃l b xs zs,x=.ref l/\vs=[.ref b]/\H l=Za (.lst xs)/\H b=Za (.lst zs)/\xs.length+zs.length<=sizeLine/\Q .non (upd H l (.lst (xs++zs)))
theorem Jq9:MtM X "list.extend" Jxz:=by
 intro pj s σ H x vs v us Q I rx rv h
 obtain⟨l,b,xs,zs,rfl,rfl,hH,hB,hz,q⟩:=h
 cases rx
 obtain⟨u,rfl,ru⟩:=rv.one
 cases ru
 obtain⟨z,its,n,r,hl,e⟩:=I.lstM hH
 obtain⟨z2,its2,n2,r2,hl2,e2⟩:=I.lstM hB
 have hsz:its.toArray.size+its2.toArray.size<=sizeLine:=by rw[Zu,Zu];omega
 have hlong:¬(!its.toArray.isEmpty&&ZbA (its.toArray.size+its2.toArray.size))=Zh:=by
  rw[Jna hsz,Bool.and_false]
  exact Zt
 refine Zdj F.slot_list_extend ⟨_,e,rfl⟩ F.entry_list_extend (F.args_list_extend_2 _ _)
  (AutoSeq1.list_extend_list_list_0 l its.toArray n b its2.toArray n2 hlong (by rw[Zu];omega) (by omega)) ⟨e,e2,?_⟩
 refine⟨.non,_,I.lset (its':=its++its2) hH e (by simp) (r.append r2) ?_,rfl,q⟩
 rw[Zx]
 omega
def rPop:V->List V->Hp->VK->Prop:=λ x vs H Q=>∃l xs y,x=.ref l/\vs=[]/\H l=Za (.lst xs)/\xs[xs.length-1]?=Za y/\Q y (upd H l (.lst xs.dropLast))
theorem J0e:MtM X "list.pop" rPop:=by
 intro pj s σ H x vs v us Q I rx rv h
 obtain⟨l,xs,y,rfl,rfl,hH,hy,q⟩:=h
 cases rx
 have hus:=rv.zero
 subst hus
 obtain⟨z,its,n,r,hl,e⟩:=I.lstM hH
 obtain⟨u,hu,ru⟩:=r.get hy
 have hy':its.toArray[its.toArray.size-1]?=Za u:=by
  show its.toArray[its.length-1]?=Za u
  rw[<- ZdV,<-hl]
  exact hu
 refine Zdj F.slot_list_pop ⟨_,e,rfl⟩ F.entry_list_pop (F.args_list_pop_1 _) (MeetsSeq.list_pop_last l its.toArray n u hy' (by rw[Zu];omega)) ⟨e,?_⟩
 refine⟨y,_,I.lset (its':=its.dropLast) hH e ?_ r.dropLast ?_,ru,q⟩
 ·show its.toArray.eraseIdxIfInBounds (its.toArray.size-1)=its.dropLast.toArray
  rw[Zu,ZcF,Jog]
 ·rw[List.length_dropLast]
  omega
def rCat:R2:=λ x y H Q=>∃l b xs zs,x=.ref l/\y=.ref b/\H l=Za (.lst xs)/\H b=Za (.lst zs)/\xs.length+zs.length<=sizeLine/\∀p,H p=Zc->Q (.ref p) (upd H p (.lst (xs++zs)))
theorem J0j:OpR X (ZaU .Add) rCat:=by
 intro pj s σ H x y v u Q I rx ry h
 obtain⟨l,b,xs,zs,rfl,rfl,hH,hB,hz,q⟩:=h
 cases rx
 cases ry
 obtain⟨z,its,n,r,hl,e⟩:=I.lstM hH
 obtain⟨z2,its2,n2,r2,hl2,e2⟩:=I.lstM hB
 refine PySem.P.add_list e e2 ?_ (by rw[Zu,Zu];omega)
 have ea:its.toArray++its2.toArray=(its++its2).toArray:=by simp
 rw[ea]
 exact⟨.ref _,_,I.lnew (t':=s.toks) (r.append r2) (by rw[Zx];omega),rfl,q _ I.fresh⟩
def rRep:R2:=λ x y H Q=>∃l k xs,x=.ref l/\y=.int k/\H l=Za (.lst xs)/\ -(2^63)<=k/\k<2^63/\xs.length*k.toNat<=sizeLine /\
 ∀p,H p=Zc->Q (.ref p) (upd H p (.lst (ZR k.toNat xs).flatten))
theorem Jxi {α:Type}(xs:List α)(k:Nat):(ZR k xs).flatten.length=k*xs.length:=by
 induction k with
 | zero=>simp
 | succ k ih=>rw[Zbg,Zb6,Zx,ih,Nat.succ_mul,Nat.add_comm]
theorem J0m:OpR X (ZaU .Mult) rRep:=by
 intro pj s σ H x y v u Q I rx ry h
 obtain⟨l,k,xs,rfl,rfl,hH,h1,h2,hz,q⟩:=h
 cases rx
 obtain⟨t,rfl⟩:=ry
 obtain⟨z,its,n,r,hl,e⟩:=I.lstM hH
 have hlen:its.toArray.size*k.toNat<=sizeLine:=by rw[Zu,<-hl];exact hz
 have hcap:¬its.toArray.size*k.toNat>(2^63-1)/8:=by
  have:(sizeLine:Nat)<=(2^63-1)/8:=by decide
  omega
 have hfit:¬(!Builtin.List.listFitsIndex k)=Zh:=by
  rw[fitsIndex_both h1 h2]
  exact Zt
 have hlong:¬ZbA (its.toArray.size*k.toNat)=Zh:=by
  rw[Jna hlen]
  exact Zt
 have hnew:List.foldl (λ x1 x2=>x1++x2) #[] (ZR (if its.toArray.isEmpty=Zh then 0 else k.toNat) its.toArray)=(ZR k.toNat its).flatten.toArray:=by
  have f0:∀m:Nat,List.foldl (λ x1 x2=>x1++x2) #[] (ZR m its.toArray)=(ZR m its).flatten.toArray:=λ m=>by
   have:=Jkq its m []
   rw[Zaw] at this
   exact this
  rw[f0]
  cases its with
  | nil=>simp
  | cons a r'=>rw[if_neg (by simp)]
 refine wpAny_binaryOp_repeat_ref (T:="list") (U:="int") (by decide) ⟨_,e,rfl⟩ (λ s'=>typeIs_int s' k t) noFill_list_mul F.fills_int_mul F.slot_int_rmul repeat_list F.slot_int_index.lookup
  (Zdj F.slot_int_rmul (typeIs_int s k t) F.entry_int_rmul (F.args_int_rmul_2 _ _) (int___rmul___int_list k t l its.toArray n)
   ⟨e,rfl,⟨_,e,rfl⟩,Zdj F.slot_list_mul ⟨_,e,rfl⟩ F.entry_list_mul (F.args_list_mul_2 _ _) (AutoListH.list___mul___list_int_3 l its.toArray n k t hfit hcap hlong) ⟨e,?_⟩⟩)
 rw[hnew]
 exact⟨.ref _,_,I.lnew (t':=s.toks) (r.rep k.toNat) (by rw[Jxi,Nat.mul_comm];exact hz),rfl,q _ I.fresh⟩
end
section
variable {prog:ZB}{w:Zab}{A:ZN}{E:QvT}{s:Zm}
end
section
variable {X:Cx}
end
section
variable {κ:Type}[DecidableEq κ]
def valV (kvs:List (κ×V))(k:κ):Option V:=(kvs.find? λ kv=>decide (kv.1=k)).map (·.2)
def putK (kvs:List (κ×V))(k:κ)(v:V):List (κ×V) :=
 if (kvs.any λ kv=>decide (kv.1=k))=Zh then kvs.map (λ kv=>if kv.1=k then(kv.1,v) else kv) else kvs++[(k,v)]
theorem Jj1 {p:κ×V}{r:List (κ×V)}{k:κ}(e:p.1=k):valV (p::r) k=Za p.2:=by simp[valV,ZbX,e]
theorem Jj0 {p:κ×V}{r:List (κ×V)}{k:κ}(e:¬p.1=k):valV (p::r) k=valV r k:=by simp[valV,ZbX,e]
theorem Jjz (k:κ):∀kvs:List (κ×V),(kvs.any λ kv=>decide (kv.1=k))=(valV kvs k).isSome
 | []=>rfl
 | p::r=>by
  rw[ZbB]
  by_cases e:p.1=k
  ·simp only[Jj1 e,decide_eq_true e,Bool.true_or,Option.isSome_some]
  ·rw[Jj0 e,decide_eq_false e,Bool.false_or];exact Jjz k r
theorem Jmf (kvs:List (κ×V))(k:κ)(v:V):(putK kvs k v).length<=kvs.length+1:=by
 unfold putK
 split
 ·rw[Zj];omega
 ·rw[Zx,ZC,Zbh];omega
theorem Jjl {kvs:List (κ×V)}{k:κ}(v:V)(h:valV kvs k=Zc):putK kvs k v=kvs++[(k,v)]:=by
 unfold putK
 rw[Jjz,h]
 exact if_neg (by decide)
theorem RelO.isSome_eq {o:Option V}{u:Option Ze}(r:RelO o u):o.isSome=u.isSome:=by
 cases o with
 | none=>cases u with
  | none=>rfl
  | some _=>exact Zf r
 | some _=>cases u with
  | none=>exact Zf r
  | some _=>rfl
theorem KV.val {kvs:List (κ×V)}{vs:List (κ×Ze)}(r:KV kvs vs)(k:κ):RelO (valV kvs k) (Ze2 vs k):=by
 unfold KV at r
 induction r with
 | nil=>exact Zat
 | @cons p q ps qs h t ih =>
  obtain⟨h1,h2⟩:=h
  by_cases e:p.1=k
  ·have e':q.1=k:=h1.symm.trans e
   have b:Ze2 (q::qs) k=Za q.2:=by simp[Ze2,ZbX,e']
   rw[Jj1 e,b];exact h2
  ·have e':¬q.1=k:=λ z=>e (h1.trans z)
   have b:Ze2 (q::qs) k=Ze2 qs k:=by simp[Ze2,ZbX,e']
   rw[Jj0 e,b];exact ih
theorem KV.any {kvs:List (κ×V)}{vs:List (κ×Ze)}(r:KV kvs vs)(k:κ):(kvs.any λ kv=>decide (kv.1=k))=vs.any λ kv=>decide (kv.1=k):=by
 unfold KV at r
 induction r with
 | nil=>rfl
 | cons h t ih=>rw[ZbB,ZbB,ih,h.1]
theorem KV.repl {kvs:List (κ×V)}{vs:List (κ×Ze)}(r:KV kvs vs)(k:κ){y:V}{u:Ze}(ry:RelV y u) :
  KV (kvs.map λ kv=>if kv.1=k then(kv.1,y) else kv) (vs.map λ kv=>if kv.1=k then(kv.1,u) else kv):=by
 unfold KV at r ⊢
 induction r with
 | nil=>exact .nil
 | @cons p q ps qs h t ih =>
  rw[Z6,Z6]
  refine .cons ?_ ih
  obtain⟨h1,h2⟩:=h
  by_cases e:p.1=k
  ·rw[if_pos e,if_pos (h1.symm.trans e)];exact⟨h1,ry⟩
  ·rw[if_neg e,if_neg (λ z=>e (h1.trans z))];exact⟨h1,h2⟩
theorem KV.put {kvs:List (κ×V)}{vs:List (κ×Ze)}(r:KV kvs vs)(k:κ){y:V}{u:Ze}(ry:RelV y u):KV (putK kvs k y) (stored vs k u):=by
 unfold putK stored
 rw[r.any k]
 by_cases e:(vs.any λ kv=>decide (kv.1=k))=Zh
 ·rw[if_pos e,if_pos e];exact r.repl k ry
 ·rw[if_neg e,if_neg e];exact Paired.snoc r ⟨rfl,ry⟩
theorem KV.length {kvs:List (κ×V)}{vs:List (κ×Ze)}(r:KV kvs vs):kvs.length=vs.length:=Zeo r
end
theorem Jti {P:ZB}{w:Zab}{k:Key}{u:Ze}(r:RelV (kV k) u):(Vi P w).is k u=Zh:=by
 cases k with
 | inl i=>obtain⟨t,e⟩:=(show ∃t,u=ZbZ i t from r);subst e;exact Jmj P w i t
 | inr x=>obtain⟨t,e⟩:=(show ∃t,u=Zei x t from r);subst e;exact Jmk P w x t
section
variable {P:ZB}{w:Zab}{H:Hp}{h:Zax}{a:Zp}
theorem J25 {u:HO}(ok:HOk P w H h)(e:Rd H a u):JG P w H h a u:=e.ok ok
theorem J11 {kvs:List (Key×V)}(ok:HOk P w H h)(e:Rd H a (.dK kvs)):kvs.length<=sizeLine/\(a==Zcy)=Zk/\∃vs,KV kvs vs/\h.DictOf (Vi P w) a vs :=
 show JG P w H h a (.dK kvs) from J25 ok e
theorem Jss {kvs:List (Key×V)}(ok:HOk P w H h)(e:H a=Za (.dK kvs)):kvs.length<=sizeLine/\(a==Zcy)=Zk/\∃vs,KV kvs vs/\h.DictOf (Vi P w) a vs:=J11 ok (.inl e)
end
section
variable {X:Cx}{pj:PnT}{σ:St}{H:Hp}{s:Zm}{a:Zp}{y v:V}{u r:Ze}{o:Option V}{A:ZN}{E:QvT}
theorem Inv.big (I:Inv X pj σ H s):Zcy<s.heap.objs.size:=by
 have h:Z2<s.heap.objs.size:=(I.mod.glob.keeps I.bk).lt
 exact Nat.lt_trans (by decide) h
theorem Jp3 {h':Zax}{t':Nat}{ob:HO}(I:Inv X pj σ H s)(mu:Mut (H a))(hs:Zc6 a s.heap h')(he:∃q,h'.get? a=Za q)(new:JG X.prog X.w (upd H a ob) h' a ob) :
  Inv X pj σ (upd H a ob) { s with heap:=h',toks:=t' } :=
 I.write (x:=a) (e:=a) mu (.inl rfl) (λ b q hb z=>(hs.2 b hb).trans z) he new
theorem Jvd {P:ZB}{w:Zab}{H':Hp}{h':Zax}{kvs:List (Key×V)}{vs:List (Key×Ze)}(z:kvs.length<=sizeLine)(hd:(a==Zcy)=Zk)(rel:KV kvs vs)(dd:h'.DictOf (Vi P w) a vs) :
  JG P w H' h' a (.dK kvs):=⟨z,hd,vs,rel,dd⟩
end
section
variable {X:Cx}{pj:PnT}{σ:St}{H:Hp}{s:Zm}{a:Zp}{kvs:List (Key×V)}{k:Key}{u:Ze}{A:ZN}{E:QvT}
end
section
variable {X:Cx}{o i e value:Expr}{pos pos' tpos:Pos}{td ty tv:TE}
end
theorem Jsr {P:ZB}{w:Zab}{H:Hp}(h:Zax)(hb:Zcy<h.objs.size):JG P w H (h.push { cls:=.type "dict",data:=.dict #[] }) h.objs.size (.dK []) :=
 ⟨ZY _,beq_eq_false_iff_ne.mpr (ZI (Z8 hb)),[],.nil,Heap.DictOf.new h⟩
section
variable {X:Cx}{pos:Pos}
end
section
variable {X:Cx}{pj:PnT}{σ:St}{H:Hp}{s:Zm}{a:Zp}{y d:V}{u r:Ze}{o:Option V}{A:ZN}{E:QvT}
end
section
variable {X:Cx}{o e f:Expr}{apos cpos:Pos}{td ty tx:TE}
end
section
variable {X:Cx}{pj:PnT}{σ:St}{H:Hp}{s:Zm}{a:Zp}{kvs:List (Key×V)}{A:ZN}{E:QvT}
end
end L2
namespace Att
open PySem PySem.W PySem.Calls PyProof.Rows
theorem Jhb {P:Params}{h:Zax}:∀(ns:List Int)(vs:List Ze),WellAll P h vs (ns.map WData.int)->ZbD vs ns:=by
 intro ns
 induction ns with
 | nil =>
  intro vs w
  rw[Zba] at w
  cases w
  exact .nil
 | cons n ns ih =>
  intro vs w
  rw[Z6] at w
  cases w with
  | cons a b =>
   cases a
   exact .cons _ _ (ih _ b)
theorem Jro {l:OpenLaw}{n:Nat}(hn:l.most=Za n){P:Params}{h:Zax}{args:List WData}{vals:List Ze}
  (hpre:l.row.toRowW.claim.pre args=Zh)(hwl:WellAll P h vals args) :
  ∃a vs ns,vals=[Zde a]/\args=[WData.list (ns.map WData.int)]/\h.get? a=Za { cls:=.type "list",data:=.seq vs.toArray }/\ZbD vs ns/\ns.length<=n:=by
 have hsh:WShape.hasAll [] args [.list .int]=Zh:=(pre_splitW hpre).1
 have hc:l.pre.holds [] { args:=args }=Zh:=(pre_splitW hpre).2
 obtain⟨d,r,rfl,h1,h2⟩:=hasAllW_cons hsh
 obtain rfl:=hasAllW_nil h2
 obtain⟨xs,rfl,h3⟩:=hasW_list h1
 obtain⟨ns,rfl⟩:=items_int h3
 have hlen:ns.length<=n:=by
  unfold OpenLaw.pre at hc
  have h4:(WTm.not (.lt (.lit (.int (n:Int))) (.len (.arg 0)))).holds [] { args:=[.list (ns.map .int)] }=Zh:=by
   have h4:=(holds_andW hc).1
   rw[hn] at h4
   exact h4
  have h5:=condW_of h4 (w_not (w_lt w_lit (w_len_list (w_arg rfl))))
  rw[Zj] at h5
  refine ZcL λ q=>?_
  have q':(n:Int)<((ns.length:Nat):Int):=by omega
  first
   | (rw[decide_eq_true q'] at h5;exact absurd h5 (by decide))
   | (simp at h5;omega)
 cases hwl with
 | cons w1 w2 =>
  cases w2
  cases w1 with
  | list ho hall=>exact⟨_,_,ns,rfl,rfl,ho,Jhb ns _ hall,hlen⟩
theorem Jrg (l:OpenLaw)(args:List WData):l.row.toRowW.claim.post args (.bool Zh) args=Zh :=
 postW_of (r:=l.row.toRowW) (X:=(Zh==Zh))
  (show WShape.has [] (.bool Zh) .bool=Zh by first|rfl|decide|simp[WShape.has,WShape.arms,WShape.armsAll])
  (show(WTm.eq .res (.lit (.bool Zh))).value [] { args:=args,res:=Za (.bool Zh),after:=args }=Za (.bool (Zh==Zh)) from w_eq_bool (w_res rfl) w_lit) rfl
theorem attach_call {l:OpenLaw}{n:Nat}{q:ZB}{loose:List Str}{XP:(Str->Option Ze)->Zax->Prop}{YP:Zab->Zax->Prop}{d:DefRec}
  (hn:l.most=Za n)(hdf:d.params.defaults=[])
  (call:∀(w:Zab)(s₀ s₁:Zm)(mg mb:Str->Option Ze)(fa:Zp)(o:Obj)(pm cd doc:Ze)(a:Zp)(vs:List Ze)(ns:List Int),
   Ground q loose [] XP w s₀ mg mb s₁.heap->YP w s₁.heap ->
   s₁.heap.get? fa=Za o->o.data=.func (docDef d.name d.params d.body d.scope pm cd doc)->s₁.heap.CodeRec cd d.name->mg d.name=Za (.ref fa) ->
   s₁.heap.get? a=Za { cls:=.type "list",data:=.seq vs.toArray }->ZbD vs ns->ns.length<=n->s₁.gens=#[] ->
   Zcv (Z9 l.prog w) Zek (.call (.ref fa) ⟨[.ref a],[]⟩) (λ r s'=>r=.ok (.ret (.bool Zh))/\OldK s₁.heap s'.heap/\s'.os=s₁.os/\Zdc s'.gens) s₁) :
  WalkO q loose XP YP l.row.toRowW d [] (λ f vs=>PySem.call f vs):=by
 intro w s₀ s₁ mg mb G Y fa o pm cd doc dV kV ho hd hcd hD hmg hg args vals as hpre hlay hrd hwl hlo
 obtain rfl:dV=.none:=Dflts.none hD hdf
 obtain rfl:kV=.none:=Dflts.noKw hD
 obtain⟨a,vs,ns,rfl,rfl,hobj,hints,hlen⟩:=Jro hn hpre hwl
 refine enter_call (ZcB (call w s₀ s₁ mg mb fa o pm cd doc a vs ns G Y ho (fd_plain hd) hcd hmg hobj hints hlen hg) λ r s' hq=>?_)
 obtain⟨rfl,h2,h3,h4⟩:=hq
 exact⟨.inl ⟨.bool Zh,.bool Zh,[],rfl,λ _=>rfl,.bool Zh,Jrg l _,λ _=>⟨List.Pairwise.nil,λ _ hm=>(nomatch hm)⟩⟩,h2,h3,h4⟩
section
variable {prog:ZB}{w:Zab}{A:ZN}{E:QvT}{s:Zm}{K:Frag}
end
end Att
namespace L2
open PySem PySem.Spec PyProof.Rows
theorem XR:∀{vs:List Ze}{ns:List Int},ZbD vs ns->Vals (ns.map V.int) vs
 | _,_,.nil=>.nil
 | _,_,.cons n t h=>.cons ⟨t,rfl⟩ (XR h)
noncomputable def JR (s:Zdh)(j:Nat):Zdh:=match s with
 | .ClassDef _ _ _ body _ _ _ _ _ _ _=>body.getD j (.Pass ⟨0,0,0,0⟩)
 | _=>.Pass ⟨0,0,0,0⟩
def QQ (s:Zdh):Zca:=match s with
 | .FunctionDef _ a _ _ _ _ _ _ _ _=>a
 | _=>{ posonlyargs:=[],args:=[],vararg:=Zc,kwonlyargs:=[],kw_defaults:=[],kwarg:=Zc,defaults:=[] }
def Qo (s:Zdh):List Zdh:=match s with
 | .FunctionDef _ _ b _ _ _ _ _ _ _=>b
 | _=>[]
def JQ (s:Zdh):Zbm:=match s with
 | .FunctionDef _ _ _ _ _ _ sc _ _ _=>sc
 | _=>{ kind:=.function,names:=[],isGenerator:=Zk,isCoroutine:=Zk }
section
variable {P:ZB}{w:Zab}{K:W.Frag}{mg:Str->Option Ze}{base:Zax}
end
section
variable {X:Cx}
end
end L2
set_option maxHeartbeats 4000000
namespace L3
open PySem PySem.Spec PyProof.Rows L2
inductive IV where
 | non|bl (b:Bool)|int (i:Int)|str (x:Str)|tup (xs:List IV)|rol (xs:List IV)|ref (i:Nat)
inductive IX where
 | lst (xs:List IV)
 | ins (c:Str) (fs:List (Str×IV))
 | dct (kvs:List (Key×IV))
 | exc (c:Str) (fs:List (Str×IV))
 | tab (q:Str)
 | hld (c:Str) (fs:List (Str×IV))
abbrev IH:=List IX
abbrev ISt:=List (Option IV)
inductive Res (α:Type) where
 | ok (a:α) (h:IH)|exc (n:Nat) (h:IH)|stuck
noncomputable def Res.bind {α β:Type}:Res α->(α->IH->Res β)->Res β
 | .ok a h,f=>f a h
 | .exc n h,_=>.exc n h
 | .stuck,_=>.stuck
inductive SRes where
 | next (σ:ISt) (h:IH)|ret (v:IV) (h:IH)|brk (σ:ISt) (h:IH)|cont (σ:ISt) (h:IH)|exc (n:Nat) (σ:ISt) (h:IH)|stuck
def SqR (K:W.Frag)(H:Hp)(a:Zp)(xs:List V):Prop :=
 (∃o,H a=Za (.frz o (.lst xs))) ∨
  ∃(o:Obj) (its:Array Ze) (n:Nat),K.lookup a=Za o/\o.cls=.type "list"/\o.dict=Zc/\o.data=.seq its n/\its.size<=sizeLine/\Vals xs its.toList
theorem SqR.sq {K:W.Frag}{H:Hp}{a:Zp}{xs:List V}(h:SqR K H a xs):SqL K H a xs:=by
 rcases h with⟨o,h⟩|h
 ·exact .inl (.inr ⟨o,h⟩)
 ·exact .inr h
mutual
def RV (K:W.Frag)(ι:List Zp)(H:Hp):IV->V->Prop
 | .non,v=>v=.non
 | .bl b,v=>v=.bl b
 | .int i,v=>v=.int i
 | .str x,v=>v=.str x
 | .tup xs,v=>∃a vs,v=.ref a/\SqT K H a vs/\RVs K ι H xs vs
 | .rol xs,v=>∃a vs,v=.ref a/\SqR K H a vs/\RVs K ι H xs vs
 | .ref i,v=>∃a,v=.ref a/\ι[i]?=Za a
def RVs (K:W.Frag)(ι:List Zp)(H:Hp):List IV->List V->Prop
 | [],vs=>vs=[]
 | x::xs,vs=>∃v r,vs=v::r/\RV K ι H x v/\RVs K ι H xs r
end
structure Ext (H H':Hp):Prop where
 tups:∀b xs,H b=Za (.tup xs)->H' b=Za (.tup xs)
 frzs:∀b o u,H b=Za (.frz o u)->H' b=Za (.frz o u)
structure Nxt (ι:List Zp)(H:Hp)(ι':List Zp)(H':Hp):Prop where
 pre:∃m,ι'=ι++m
 ext:Ext H H'
theorem Nxt.refl:Nxt ι H ι H:=⟨⟨[],by simp⟩,⟨λ _ _ h=>h,λ _ _ _ h=>h⟩⟩
theorem Nxt.trans (a:Nxt ι H ι1 H1)(b:Nxt ι1 H1 ι2 H2):Nxt ι H ι2 H2:=by
 obtain⟨⟨m,e⟩,x⟩:=a
 obtain⟨⟨m',e'⟩,y⟩:=b
 exact⟨⟨m++m',by rw[e',e,Zad]⟩,⟨λ b xs h=>y.tups b xs (x.tups b xs h),λ b o u h=>y.frzs b o u (x.frzs b o u h)⟩⟩
theorem Nxt.at (n:Nxt ι H ι' H'){i:Nat}(h:ι[i]?=Za a):ι'[i]?=Za a:=by
 obtain⟨⟨m,e⟩,_⟩:=n
 subst e
 rw[ZE (Zo.mp h).1]
 exact h
theorem Ext.rd (x:Ext H H')(h:Rd H a (.tup xs)):Rd H' a (.tup xs):=by
 rcases h with h|⟨o,h⟩
 ·exact .inl (x.tups _ _ h)
 ·exact .inr ⟨o,x.frzs _ _ _ h⟩
theorem Ext.sqT {K:W.Frag}{H H':Hp}(x:Ext H H'){a:Zp}{xs:List V}(h:SqT K H a xs):SqT K H' a xs:=by
 rcases h with h|h
 ·exact .inl (x.rd h)
 ·exact .inr h
theorem Ext.sqR {K:W.Frag}{H H':Hp}(x:Ext H H'){a:Zp}{xs:List V}(h:SqR K H a xs):SqR K H' a xs:=by
 rcases h with⟨o,h⟩|h
 ·exact .inl ⟨o,x.frzs _ _ _ h⟩
 ·exact .inr h
mutual
theorem RV.mono {K:W.Frag}{ι ι':List Zp}{H H':Hp}(n:Nxt ι H ι' H'):∀(x:IV)(v:V),RV K ι H x v->RV K ι' H' x v
 | .non,_,h=>h
 | .bl _,_,h=>h
 | .int _,_,h=>h
 | .str _,_,h=>h
 | .tup xs,_,h=>by
  obtain⟨a,vs,e,q,r⟩:=h
  exact⟨a,vs,e,n.ext.sqT q,RVs.mono n xs vs r⟩
 | .rol xs,_,h=>by
  obtain⟨a,vs,e,q,r⟩:=h
  exact⟨a,vs,e,n.ext.sqR q,RVs.mono n xs vs r⟩
 | .ref i,_,h=>by
  obtain⟨a,e,q⟩:=h
  exact⟨a,e,n.at q⟩
theorem RVs.mono {K:W.Frag}{ι ι':List Zp}{H H':Hp}(n:Nxt ι H ι' H'):∀(xs:List IV)(vs:List V),RVs K ι H xs vs->RVs K ι' H' xs vs
 | [],_,h=>h
 | x::xs,_,h=>by
  obtain⟨v,r,e,q,t⟩:=h
  exact⟨v,r,e,RV.mono n x v q,RVs.mono n xs r t⟩
end
theorem RVs.length {K:W.Frag}{ι:List Zp}{H:Hp}:∀{xs:List IV}{vs:List V},RVs K ι H xs vs->vs.length=xs.length
 | [],_,h=>by
  have e:_=[]:=h
  subst e
  rfl
 | x::xs,_,h=>by
  obtain⟨v,r,e,_,t⟩:=h
  subst e
  simp[RVs.length t]
theorem RVs.get {K:W.Frag}{ι:List Zp}{H:Hp}:∀{xs:List IV}{vs:List V}{i:Nat}{x:IV},RVs K ι H xs vs->xs[i]?=Za x->∃v,vs[i]?=Za v/\RV K ι H x v
 | [],_,_,_,_,e=>by simp at e
 | x::xs,_,0,y,h,e=>by
  obtain⟨v,r,e1,q,t⟩:=h
  subst e1
  simp at e
  subst e
  exact⟨v,rfl,q⟩
 | x::xs,_,i+1,y,h,e=>by
  obtain⟨v,r,e1,q,t⟩:=h
  subst e1
  obtain⟨u,h1,h2⟩:=RVs.get (i:=i) (x:=y) t (by simpa using e)
  exact⟨u,by simpa using h1,h2⟩
theorem RVs.get' {K:W.Frag}{ι:List Zp}{H:Hp}{xs:List IV}{vs:List V}{i:Nat}{v:V}(h:RVs K ι H xs vs)(e:vs[i]?=Za v):∃x,xs[i]?=Za x/\RV K ι H x v:=by
 have hl:=h.length
 have hi:i<vs.length:=(Zo.mp e).1
 have hx:xs[i]?=Za xs[i]:=Zb (by omega)
 obtain⟨u,h1,h2⟩:=h.get hx
 rw[e] at h1
 cases h1
 exact⟨_,hx,h2⟩
theorem RVs.append {K:W.Frag}{ι:List Zp}{H:Hp}:∀{xs ys:List IV}{vs us:List V},RVs K ι H xs vs->RVs K ι H ys us->RVs K ι H (xs++ys) (vs++us)
 | [],_,_,_,h,g=>by
  have e:_=[]:=h
  subst e
  exact g
 | x::xs,_,_,_,h,g=>by
  obtain⟨v,r,e,q,t⟩:=h
  subst e
  exact⟨v,_,rfl,q,RVs.append t g⟩
theorem RVs.take {K:W.Frag}{ι:List Zp}{H:Hp}:∀{xs:List IV}{vs:List V}(n:Nat),RVs K ι H xs vs->RVs K ι H (xs.take n) (vs.take n)
 | _,_,0,_=>by simp;exact rfl
 | [],_,n+1,h=>by
  have e:_=[]:=h
  subst e
  exact rfl
 | x::xs,_,n+1,h=>by
  obtain⟨v,r,e,q,t⟩:=h
  subst e
  exact⟨v,r.take n,rfl,q,RVs.take n t⟩
theorem RVs.drop {K:W.Frag}{ι:List Zp}{H:Hp}:∀{xs:List IV}{vs:List V}(n:Nat),RVs K ι H xs vs->RVs K ι H (xs.drop n) (vs.drop n)
 | _,_,0,h=>h
 | [],_,n+1,h=>by
  have e:_=[]:=h
  subst e
  exact rfl
 | x::xs,_,n+1,h=>by
  obtain⟨v,r,e,q,t⟩:=h
  subst e
  exact RVs.drop n t
theorem RVs.set {K:W.Frag}{ι:List Zp}{H:Hp}{x:IV}{v:V}(q:RV K ι H x v):∀{xs:List IV}{vs:List V}(i:Nat),RVs K ι H xs vs->RVs K ι H (xs.set i x) (vs.set i v)
 | [],_,_,h=>by
  have e:_=[]:=h
  subst e
  exact rfl
 | y::xs,_,0,h=>by
  obtain⟨u,r,e,_,t⟩:=h
  subst e
  exact⟨v,r,rfl,q,t⟩
 | y::xs,_,i+1,h=>by
  obtain⟨u,r,e,p,t⟩:=h
  subst e
  exact⟨u,r.set i v,rfl,p,RVs.set q i t⟩
theorem RVs.one {K:W.Frag}{ι:List Zp}{H:Hp}{x:IV}{v:V}(q:RV K ι H x v):RVs K ι H [x] [v]:=⟨v,[],rfl,q,rfl⟩
theorem RVs.rev {K:W.Frag}{ι:List Zp}{H:Hp}:∀{xs:List IV}{vs:List V},RVs K ι H xs vs->RVs K ι H xs.reverse vs.reverse
 | [],_,h=>by
  have e:_=[]:=h
  subst e
  exact rfl
 | x::xs,_,h=>by
  obtain⟨v,r,e,q,t⟩:=h
  subst e
  rw[Zbr,Zbr]
  exact RVs.append (RVs.rev t) (RVs.one q)
theorem RVs.ints {K:W.Frag}{ι:List Zp}{H:Hp}:∀(ns:List Int),RVs K ι H (ns.map IV.int) (ns.map V.int)
 | []=>rfl
 | _::ns=>⟨_,_,rfl,rfl,RVs.ints ns⟩
def RPs {κ:Type}(K:W.Frag)(ι:List Zp)(H:Hp):List (κ×IV)->List (κ×V)->Prop
 | [],vs=>vs=[]
 | x::xs,vs=>∃v r,vs=(x.1,v)::r/\RV K ι H x.2 v/\RPs K ι H xs r
theorem RPs.mono {κ:Type}{K:W.Frag}{ι ι':List Zp}{H H':Hp}(n:Nxt ι H ι' H'):∀(xs:List (κ×IV))(vs:List (κ×V)),RPs K ι H xs vs->RPs K ι' H' xs vs
 | [],_,h=>h
 | x::xs,_,h=>by
  obtain⟨v,r,e,q,t⟩:=h
  exact⟨v,r,e,RV.mono n _ v q,RPs.mono n xs r t⟩
theorem RPs.length {κ:Type}{K:W.Frag}{ι:List Zp}{H:Hp}:∀{xs:List (κ×IV)}{vs:List (κ×V)},RPs K ι H xs vs->vs.length=xs.length
 | [],_,h=>by
  have e:_=[]:=h
  subst e
  rfl
 | x::xs,_,h=>by
  obtain⟨v,r,e,_,t⟩:=h
  subst e
  simp[RPs.length t]
theorem RPs.lookup {κ:Type}[BEq κ]{K:W.Frag}{ι:List Zp}{H:Hp}{f:κ}:∀{xs:List (κ×IV)}{vs:List (κ×V)},RPs K ι H xs vs ->
  (∀x,xs.lookup f=Za x->∃v,vs.lookup f=Za v/\RV K ι H x v)/\(xs.lookup f=Zc->vs.lookup f=Zc)
 | [],_,h=>by
  have e:_=[]:=h
  subst e
  exact⟨λ x e=>by simp at e,λ _=>rfl⟩
 | (k,x)::xs,_,h=>by
  obtain⟨v,r,e,q,t⟩:=h
  subst e
  have ih:=RPs.lookup (f:=f) t
  simp only[Zai]
  cases hb:f==k with
  | true=>exact⟨λ y e=>by cases e;exact⟨v,rfl,q⟩,λ e=>by cases e⟩
  | false=>exact ih
def Q8 (H:Hp)(q:Str)(cv:Ze):Prop:=∃c oc vs t,cv=.ref c/\H c=Za (.frz oc (.own 0))/\oc.data=.fields vs/\vs[1]?=Za (.str (q++".<locals>."++"<lambda>") t)
def TabO (K:W.Frag)(H:Hp)(q:Str)(a:Zp):Prop:=(∀cdv,W.codeIn K cdv q=Zh->∃c,cdv=.ref c/\W.codeHdIn K c a=Zh) /\
 ∃ps,H a=Za (.tbl ps)/\TriplesOk ps.toList/\∀pos cv,Zd6 pos ps.toList=Za cv->Q8 H q cv
theorem TabO.mono {K:W.Frag}{H H':Hp}{q:Str}{a:Zp}(fz:∀b o u,H b=Za (.frz o u)->H' b=Za (.frz o u))(k:∀u,H a=Za u->H' a=Za u)(h:TabO K H q a):TabO K H' q a:=by
 obtain⟨h1,ps,e,ht,hc⟩:=h
 refine⟨h1,ps,k _ e,ht,λ pos cv q=>?_⟩
 obtain⟨c,oc,vs,t,e1,e2,r⟩:=hc pos cv q
 exact⟨c,oc,vs,t,e1,fz _ _ _ e2,r⟩
def ExF (a C:Zp)(tv:Ze)(d:Option Zp):HO:=.ext λ h=>∃oe vs,h.get? a=Za oe/\oe.cls=.ref C/\oe.data=.fields vs/\vs[1]?=Za tv/\vs[2]?=Za .none/\oe.dict=d
def XdOk (H:Hp)(d:Option Zp)(fs:List (Str×IV)):Prop:=(fs=[]/\d=Zc)∨∃f i dx od t,fs=[(f,.int i)]/\d=Za dx/\H dx=Za (.frz od (.own 0))/\W.lookIn f od=Za (Za (.int i t))
theorem XdOk.mono (fz:∀b o u,H b=Za (.frz o u)->H' b=Za (.frz o u))(h:XdOk H d fs):XdOk H' d fs:=by
 rcases h with h|⟨f,i,dx,od,t,e,q,r,z⟩
 ·exact .inl h
 ·exact .inr ⟨f,i,dx,od,t,e,q,fz _ _ _ r,z⟩
def TvOk (H:Hp)(tv:Ze):Prop:=tv=.none∨∃T oT ts,tv=.ref T/\H T=Za (.frz oT (.own 0))/\oT.data=.fields ts/\ts[3]?=Za .none
theorem TvOk.mono (fz:∀b o u,H b=Za (.frz o u)->H' b=Za (.frz o u))(h:TvOk H tv):TvOk H' tv:=by
 rcases h with h|⟨T,oT,ts,e,q,r⟩
 ·exact .inl h
 ·exact .inr ⟨T,oT,ts,e,fz _ _ _ q,r⟩
def RO (ce:CeT)(K:W.Frag)(ι:List Zp)(H:Hp)(a:Zp):IX->Prop
 | .lst xs=>∃vs,H a=Za (.lst vs)/\RVs K ι H xs vs
 | .ins c fs=>∃C dx vs,ce c=Za C/\H a=Za (.ins C dx vs)/\RPs K ι H fs vs
 | .dct kvs=>∃vs,H a=Za (.dK vs)/\RPs K ι H kvs vs
 | .exc c fs=>∃C tv d,XdOk H d fs/\W.nsIn K Z2 c=Za (Za (.ref C))/\H a=Za (ExF a C tv d)/\TvOk H tv
 | .tab q=>TabO K H q a
 | .hld c fs=>∃C oe u vs,XdOk H oe.dict fs/\W.nsIn K Z2 c=Za (Za (.ref C))/\H a=Za (.frz oe u)/\oe.cls=.ref C/\oe.data=.fields vs/\vs[2]?=Za .none
theorem RO.some {ce:CeT}{K:W.Frag}{ι:List Zp}{H:Hp}{a:Zp}{o:IX}(h:RO ce K ι H a o):∃u,H a=Za u:=by
 cases o with
 | lst xs=>obtain⟨vs,e,_⟩:=h;exact⟨_,e⟩
 | ins c fs=>obtain⟨_,_,vs,_,e,_⟩:=h;exact⟨_,e⟩
 | dct kvs=>obtain⟨vs,e,_⟩:=h;exact⟨_,e⟩
 | exc c fs=>obtain⟨C,tv,d,_,_,e,_⟩:=h;exact⟨_,e⟩
 | tab q=>obtain⟨_,ps,e,_⟩:=h;exact⟨_,e⟩
 | hld c fs=>obtain⟨_,_,_,_,_,_,e,_⟩:=h;exact⟨_,e⟩
theorem RO.mono {ce:CeT}{K:W.Frag}{ι ι':List Zp}{H H':Hp}{a:Zp}{o:IX}(n:Nxt ι H ι' H')(k:∀u,H a=Za u->H' a=Za u)(h:RO ce K ι H a o):RO ce K ι' H' a o:=by
 cases o with
 | lst xs=>obtain⟨vs,e,r⟩:=h;exact⟨vs,k _ e,RVs.mono n _ _ r⟩
 | ins c fs=>obtain⟨C,dx,vs,c1,e,r⟩:=h;exact⟨C,dx,vs,c1,k _ e,RPs.mono n _ _ r⟩
 | dct kvs=>obtain⟨vs,e,r⟩:=h;exact⟨vs,k _ e,RPs.mono n _ _ r⟩
 | exc c fs=>obtain⟨C,tv,d,e0,c1,e,r⟩:=h;exact⟨C,tv,d,e0.mono n.ext.frzs,c1,k _ e,r.mono n.ext.frzs⟩
 | tab q=>exact TabO.mono n.ext.frzs k h
 | hld c fs=>obtain⟨C,oe,u,vs,e0,c1,e,r⟩:=h;exact⟨C,oe,u,vs,e0.mono n.ext.frzs,c1,k _ e,r⟩
structure Rel (ce:CeT)(K:W.Frag)(ι:List Zp)(h:IH)(H:Hp):Prop where
 len:ι.length=h.length
 nd:ι.Nodup
 at_:∀(i:Nat)(o:IX),h[i]?=Za o->∃a,ι[i]?=Za a/\RO ce K ι H a o
section
variable {ce:CeT}{K:W.Frag}{ι:List Zp}{h:IH}{H:Hp}
theorem Rel.some (R:Rel ce K ι h H){i:Nat}(e:ι[i]?=Za a):∃u,H a=Za u:=by
 have hi:i<h.length:=by rw[<- R.len];exact(Zo.mp e).1
 obtain⟨b,e',r⟩:=R.at_ i _ (Zb hi)
 rw[e] at e'
 cases e'
 exact r.some
theorem Rel.notin (R:Rel ce K ι h H)(e:H l=Zc):l∉ι:=λ hl=>by
 obtain⟨i,hi,q⟩:=Zam.mp hl
 obtain⟨u,hu⟩:=R.some (i:=i) (a:=l) (by rw[Zb hi,q])
 rw[e] at hu
 cases hu
theorem Ext.upd_new (e:H l=Zc):Ext H (upd H l o) :=
 ⟨λ b xs q=>by rw[Jq (Vj q e)];exact q,λ b o u q=>by rw[Jq (Vj q e)];exact q⟩
theorem Rel.grow (R:Rel ce K ι h H)(e:H l=Zc):Rel ce K ι h (upd H l o)/\Nxt ι H ι (upd H l o):=by
 have n:Nxt ι H ι (upd H l o):=⟨⟨[],by simp⟩,Ext.upd_new e⟩
 refine⟨⟨R.len,R.nd,λ i u q=>?_⟩,n⟩
 obtain⟨a,e1,r⟩:=R.at_ i u q
 exact⟨a,e1,r.mono n λ w hw=>by rw[Jq (Vj hw e)];exact hw⟩
theorem Rel.alloc (R:Rel ce K ι h H)(e:H l=Zc)(r:RO ce K (ι++[l]) (upd H l o) l io):Rel ce K (ι++[l]) (h++[io]) (upd H l o)/\Nxt ι H (ι++[l]) (upd H l o):=by
 have n:Nxt ι H (ι++[l]) (upd H l o):=⟨⟨[l],rfl⟩,Ext.upd_new e⟩
 refine⟨⟨by simp[R.len],?_,λ i u q=>?_⟩,n⟩
 ·rw[List.nodup_append]
  refine⟨R.nd,by simp,λ a ha b hb=>?_⟩
  have:b=l:=by simpa using hb
  subst this
  rintro rfl
  exact R.notin e ha
 ·by_cases hi:i<h.length
  ·rw[ZE hi] at q
   obtain⟨a,e1,r1⟩:=R.at_ i u q
   exact⟨a,n.at e1,r1.mono n λ w hw=>by rw[Jq (Vj hw e)];exact hw⟩
  ·have hi2:i=h.length:=by
    have:=(Zo.mp q).1
    simp at this
    omega
   subst hi2
   rw[ZA (Zq _)] at q
   simp at q
   subst q
   refine⟨l,?_,r⟩
   rw[<- R.len,ZA (Zq _)]
   simp
theorem Rel.inj (R:Rel ce K ι h H){i j:Nat}(e1:ι[i]?=Za a)(e2:ι[j]?=Za a):i=j:=by
 obtain⟨h1,q1⟩:=Zo.mp e1
 obtain⟨h2,q2⟩:=Zo.mp e2
 exact(ZcJ R.nd).mp (q1.trans q2.symm)
theorem Ext.upd_mut (e:H l=Za u)(m:Mut (H l)):Ext H (upd H l o):=by
 refine⟨λ b xs q=>?_,λ b ob w q=>?_⟩
 ·by_cases hb:b=l
  ·subst hb
   rw[q] at m
   exact Zf m
  ·rw[Jq hb];exact q
 ·by_cases hb:b=l
  ·subst hb
   rw[q] at m
   exact Zf m
  ·rw[Jq hb];exact q
theorem Rel.write (R:Rel ce K ι h H)(e:ι[i]?=Za a)(ha:H a=Za u)(m:Mut (H a))(r:RO ce K ι (upd H a o) a io):Rel ce K ι (h.set i io) (upd H a o)/\Nxt ι H ι (upd H a o):=by
 have n:Nxt ι H ι (upd H a o):=⟨⟨[],by simp⟩,Ext.upd_mut ha m⟩
 refine⟨⟨by simp[R.len],R.nd,λ j w q=>?_⟩,n⟩
 by_cases hj:j=i
 ·subst hj
  have hl:j<h.length:=by
   have:=(Zo.mp q).1
   simpa using this
  rw[ZK hl] at q
  cases q
  exact⟨a,e,r⟩
 ·rw[ZG (ZI hj)] at q
  obtain⟨b,e1,r1⟩:=R.at_ j w q
  refine⟨b,e1,r1.mono n λ v hv=>?_⟩
  have:b≠a:=by
   rintro rfl
   exact hj (R.inj e1 e)
  rw[Jq this]
  exact hv
end
structure RSt (K:W.Frag)(ι:List Zp)(H:Hp)(σi:ISt)(σ:L2.St):Prop where
 len:σi.length=σ.length
 at_:∀(j:Nat)(v:IV),σi[j]?=Za (Za v)->∃u,σ[j]?=Za (Za u)/\RV K ι H v u
theorem RSt.mono {K:W.Frag}{ι ι':List Zp}{H H':Hp}{σi:ISt}{σ:L2.St}(n:Nxt ι H ι' H')(r:RSt K ι H σi σ):RSt K ι' H' σi σ :=
 ⟨r.len,λ j v e=>let ⟨u,e1,q⟩:=r.at_ j v e;⟨u,e1,RV.mono n _ _ q⟩⟩
theorem RSt.set {K:W.Frag}{ι:List Zp}{H:Hp}{σi:ISt}{σ:L2.St}(r:RSt K ι H σi σ)(i:Nat){x:IV}{v:V}(q:RV K ι H x v):RSt K ι H (σi.set i (Za x)) (σ.set i (Za v)):=by
 refine⟨by simp[r.len],λ j w e=>?_⟩
 by_cases hj:j=i
 ·subst hj
  have hl:j<σi.length:=by
   have:=(Zo.mp e).1
   simpa using this
  rw[ZK hl] at e
  cases e
  exact⟨v,by rw[ZK (by rw[<- r.len];exact hl)],q⟩
 ·rw[ZG (ZI hj)] at e
  obtain⟨u,e1,q1⟩:=r.at_ j w e
  exact⟨u,by rw[ZG (ZI hj)];exact e1,q1⟩
structure Now (ce:CeT)(X:Cx)(pj:PnT)(ι:List Zp)(σi:ISt)(h:IH)(σ:L2.St)(H:Hp)(s:Zm):Prop where
 inv:Inv X pj σ H s
 rel:Rel ce X.K ι h H
 st:RSt X.K ι H σi σ
def RU (K:W.Frag)(ι:List Zp)(H:Hp)(v:IV)(u:Ze):Prop:=∃x,RelV x u/\RV K ι H v x
theorem RU.mono {K:W.Frag}{ι ι':List Zp}{H H':Hp}{v:IV}{u:Ze}(n:Nxt ι H ι' H')(r:RU K ι H v u):RU K ι' H' v u :=
 let ⟨x,a,b⟩:=r;⟨x,a,RV.mono n _ _ b⟩
def RUs (K:W.Frag)(ι:List Zp)(H:Hp)(vs:List IV)(us:List Ze):Prop:=∃xs,Vals xs us/\RVs K ι H vs xs
theorem RUs.mono {K:W.Frag}{ι ι':List Zp}{H H':Hp}{v:List IV}{u:List Ze}(n:Nxt ι H ι' H')(r:RUs K ι H v u):RUs K ι' H' v u :=
 let ⟨x,a,b⟩:=r;⟨x,a,RVs.mono n _ _ b⟩
abbrev REL (α β:Type):=W.Frag->List Zp->Hp->α->β->Prop
def RB:REL Bool Bool:=λ _ _ _ b c=>c=b
section
variable {α β γ δ:Type}
def Kont (ce:CeT)(X:Cx)(R:REL α β)(pj:PnT)(ι:List Zp)(σi:ISt)(σ:L2.St)(H:Hp)(r:Res α)(Q:β->Zm->Prop)(E:QvT):Prop :=
 match r with
 | .ok v h'=>∀u s' H' ι',Now ce X pj ι' σi h' σ H' s'->Nxt ι H ι' H'->R X.K ι' H' v u->Q u s'
 | .exc n h'=>∀pl a s' H' ι',Now ce X (pj++pl) ι' σi h' σ H' s'->Nxt ι H ι' H'->ι'[n]?=Za a->E (.ref a) s'
 | .stuck=>False
variable {ce:CeT}{X:Cx}{R:REL α β}{R':REL γ δ}{pj:PnT}{ι ι':List Zp}{σi:ISt}{σ:L2.St}{H H':Hp}
theorem Kont.mono (k:Kont ce X R pj ι σi σ H r Q E)(n:Nxt ι H ι' H'):Kont ce X R pj ι' σi σ H' r Q E:=by
 cases r with
 | ok v h'=>exact λ u s' H2 ι2 N n2 q=>k u s' H2 ι2 N (n.trans n2) q
 | exc m h'=>exact λ pl a s' H2 ι2 N n2 q=>k pl a s' H2 ι2 N (n.trans n2) q
 | stuck=>exact k
def PX (ce:CeT)(X:Cx)(R:REL α β)(t:Sem β)(m:ISt->IH->Res α):Prop :=
 ∀(pj:PnT)(s:Zm)(σ:L2.St)(H:Hp)(ι:List Zp)(σi:ISt)(h:IH)(Q:β->Zm->Prop)(E:QvT),Now ce X pj ι σi h σ H s->Kont ce X R pj ι σi σ H (m σi h) Q E ->
  Zy (Z9 X.prog X.w) X.A t Q E s
theorem PX.run (p:PX ce X R t m)(N:Now ce X pj ι σi h σ H s){g:α->IH->Res γ}{Q:δ->Zm->Prop}{E:QvT}{Q1:β->Zm->Prop} 
  (K:Kont ce X R' pj ι σi σ H ((m σi h).bind g) Q E)
  (step:∀x h1 u s1 H1 ι1,Now ce X pj ι1 σi h1 σ H1 s1->Nxt ι H ι1 H1->R X.K ι1 H1 x u->Kont ce X R' pj ι1 σi σ H1 (g x h1) Q E->Q1 u s1):Zy (Z9 X.prog X.w) X.A t Q1 E s:=by
 refine p pj s σ H ι σi h Q1 E N ?_
 cases e:m σi h with
 | ok v h' =>
  rw[e] at K
  exact λ u s' H' ι' N' n' r=>step v h' u s' H' ι' N' n' r (Kont.mono (r:=g v h') K n')
 | exc n h' =>
  rw[e] at K
  exact K
 | stuck =>
  rw[e] at K
  exact K
end
abbrev PEi (ce:CeT)(X:Cx)(e:Expr)(m:ISt->IH->Res IV):Prop:=PX ce X RU (ZaY e X.env) m
abbrev PTi (ce:CeT)(X:Cx)(e:Expr)(m:ISt->IH->Res Bool):Prop:=PX ce X RB (isTrue e X.env (ZaY e X.env)) m
def PWi (ce:CeT)(X:Cx)(e:Expr)(m:ISt->IH->Res Bool):Prop:=∀whole:Sem Ze,PX ce X RB (isTrue e X.env whole) m
def PAi (ce:CeT)(X:Cx)(es:List Expr)(m:ISt->IH->Res (List IV)):Prop:=∀pos:Pos,PX ce X RUs (spliced (Zbq pos (ZD es X.env))) m
abbrev E1:=ISt->IH->Res IV
abbrev T1:=ISt->IH->Res Bool
abbrev A1:=ISt->IH->Res (List IV)
noncomputable def Ja (i:Nat):E1:=λ σ h=>match σ[i]? with|some (Za v)=>.ok v h|_=>.stuck
noncomputable def eC (v:IV):E1:=λ _ h=>.ok v h
def Jc (f:IV->IV->IH->Res IV)(a b:E1):E1:=λ σ h=>(a σ h).bind λ x h1=>(b σ h1).bind λ y h2=>f x y h2
def eUn (f:IV->IH->Res IV)(a:E1):E1:=λ σ h=>(a σ h).bind λ x h1=>f x h1
def eAnd (a b:E1)(tr:IV->IH->Res Bool):E1:=λ σ h=>(a σ h).bind λ x h1=>(tr x h1).bind λ c h2=>if c then b σ h2 else .ok x h2
def eOr (a b:E1)(tr:IV->IH->Res Bool):E1:=λ σ h=>(a σ h).bind λ x h1=>(tr x h1).bind λ c h2=>if c then .ok x h2 else b σ h2
def eIf (t:T1)(a b:E1):E1:=λ σ h=>(t σ h).bind λ c h1=>if c then a σ h1 else b σ h1
def QK (a b:T1):T1:=λ σ h=>(a σ h).bind λ c h1=>if c then b σ h1 else .ok Zk h1
def tOrI (a b:T1):T1:=λ σ h=>(a σ h).bind λ c h1=>if c then .ok Zh h1 else b σ h1
def JD (a:T1):T1:=λ σ h=>(a σ h).bind λ c h1=>.ok (!c) h1
def Jh (tr:IV->IH->Res Bool)(a:E1):T1:=λ σ h=>(a σ h).bind λ x h1=>tr x h1
noncomputable def Jd:A1:=λ _ h=>.ok [] h
def Jb (a:E1)(r:A1):A1:=λ σ h=>(a σ h).bind λ x h1=>(r σ h1).bind λ xs h2=>.ok (x::xs) h2
def JT (f g:IV->IV->IH->Res IV)(a b c:E1):E1:=λ σ h=>(a σ h).bind λ x h1=>(b σ h1).bind λ y h2=>(f x y h2).bind λ k h3 =>
 match k with
 | .bl Zh=>(c σ h3).bind λ z h4=>g y z h4
 | .bl Zk=>.ok (.bl Zk) h3
 | _=>.stuck
section
variable {ce:CeT}{X:Cx}{a b c:Expr}{ma mb mc:E1}{pos:Pos}
def OpI (ce:CeT)(X:Cx)(f:Ze->Ze->Sem Ze)(g:IV->IV->IH->Res IV):Prop :=
 ∀(pj:PnT)(s:Zm)(σ:L2.St)(H:Hp)(ι:List Zp)(σi:ISt)(h:IH)(x y:IV)(v u:Ze)(Q:QvT)(E:QvT),Now ce X pj ι σi h σ H s->RU X.K ι H x v->RU X.K ι H y u ->
  Kont ce X RU pj ι σi σ H (g x y h) Q E->Zy (Z9 X.prog X.w) X.A (f v u) Q E s
def UnI (ce:CeT)(X:Cx)(f:Ze->Sem Ze)(g:IV->IH->Res IV):Prop :=
 ∀(pj:PnT)(s:Zm)(σ:L2.St)(H:Hp)(ι:List Zp)(σi:ISt)(h:IH)(x:IV)(v:Ze)(Q:QvT)(E:QvT),Now ce X pj ι σi h σ H s->RU X.K ι H x v ->
  Kont ce X RU pj ι σi σ H (g x h) Q E->Zy (Z9 X.prog X.w) X.A (f v) Q E s
def TrI (ce:CeT)(X:Cx)(g:IV->IH->Res Bool):Prop :=
 ∀(pj:PnT)(s:Zm)(σ:L2.St)(H:Hp)(ι:List Zp)(σi:ISt)(h:IH)(x:IV)(v:Ze)(Q:Bool->Zm->Prop)(E:QvT),Now ce X pj ι σi h σ H s->RU X.K ι H x v ->
  Kont ce X RB pj ι σi σ H (g x h) Q E->Zy (Z9 X.prog X.w) X.A (truthy v) Q E s
def Qx (ce:CeT)(X:Cx)(f:Ze)(g:List IV->IH->Res IV):Prop :=
 ∀(pj:PnT)(s:Zm)(σ:L2.St)(H:Hp)(ι:List Zp)(σi:ISt)(h:IH)(xs:List IV)(us:List Ze)(Q:QvT)(E:QvT),Now ce X pj ι σi h σ H s->RUs X.K ι H xs us ->
  Kont ce X RU pj ι σi σ H (g xs h) Q E->Zy (Z9 X.prog X.w) X.A (call f us) Q E s
theorem XQ {pj:PnT}{s:Zm}{σ:L2.St}{H:Hp}{Q:QvT}{E:QvT}{e:Expr}{t:TE}(p:PE (X.wish E) e t)(I:Inv X pj σ H s)
  (k:t σ H λ z H'=>∀u s',Inv X pj σ H' s'->RelV z u->Q u s'):Zy (Z9 X.prog X.w) X.A (ZaY e X.env) Q E s :=
 Zap (p pj s σ H _ (I.wish E) k) (λ u s' ⟨_,_,I',r,q⟩=>q u s' I'.unwish r) λ _ _ z=>z
theorem Qb {pj:PnT}{s:Zm}{σ:L2.St}{H:Hp}{Q:QvT}{E:QvT}{f:Ze->Ze->Sem Ze}{r:R2}{x y:V}{v u:Ze}(p:OpR (X.wish E) f r)(I:Inv X pj σ H s)(rx:RelV x v)(ry:RelV y u)
  (k:r x y H λ z H'=>∀u s',Inv X pj σ H' s'->RelV z u->Q u s'):Zy (Z9 X.prog X.w) X.A (f v u) Q E s :=
 Zap (p pj s σ H x y v u _ (I.wish E) rx ry k) (λ u s' ⟨_,_,I',r,q⟩=>q u s' I'.unwish r) λ _ _ z=>z
theorem J1k {pj:PnT}{s:Zm}{σ:L2.St}{H:Hp}{Q:QvT}{E:QvT}{f:Ze->Sem Ze}{r:V->Hp->VK->Prop}{x:V}{v:Ze}(p:UnR (X.wish E) f r)(I:Inv X pj σ H s)(rx:RelV x v)
  (k:r x H λ z H'=>∀u s',Inv X pj σ H' s'->RelV z u->Q u s'):Zy (Z9 X.prog X.w) X.A (f v) Q E s :=
 Zap (p pj s σ H x v _ (I.wish E) rx k) (λ u s' ⟨_,_,I',r,q⟩=>q u s' I'.unwish r) λ _ _ z=>z
theorem VP {pj:PnT}{s:Zm}{σ:L2.St}{H:Hp}{Q:Bool->Zm->Prop}{E:QvT}{r:V->Hp->(Bool->Hp->Prop)->Prop}{x:V}{v:Ze}(p:TruR (X.wish E) r)(I:Inv X pj σ H s)(rx:RelV x v)
  (k:r x H λ z H'=>∀s',Inv X pj σ H' s'->Q z s'):Zy (Z9 X.prog X.w) X.A (truthy v) Q E s :=
 Zap (p pj s σ H x v _ (I.wish E) rx k) (λ _ s' ⟨_,I',q⟩=>q s' I'.unwish) λ _ _ z=>z
theorem QY {pj:PnT}{s:Zm}{σ:L2.St}{H:Hp}{Q:QvT}{E:QvT}{f:Ze}{r:List V->Hp->VK->Prop}{xs:List V}{us:List Ze}(p:Xm (X.wish E) f r)(I:Inv X pj σ H s)(rx:Vals xs us)
  (k:r xs H λ z H'=>∀u s',Inv X pj σ H' s'->RelV z u->Q u s'):Zy (Z9 X.prog X.w) X.A (call f us) Q E s :=
 Zap (p pj s σ H xs us _ (I.wish E) rx k) (λ u s' ⟨_,_,I',r,q⟩=>q u s' I'.unwish r) λ _ _ z=>z
theorem J2j (i:Nat){pos:Pos}(hN:X.N[i]?=Za x:=by rfl)(hv:Vis X.env.scope x:=by assumption)(hd:(x==("__debug__":Str))=Zk:=by decide) 
  (hcd:(x==("__classdict__":Str))=Zk:=by decide):PEi ce X (.Name x pos) (Ja i):=by
 intro pj s σ H ι σi h Q E N K
 unfold Ja at K
 cases e:σi[i]? with
 | none =>
  rw[e] at K
  exact Zf K
 | some o =>
  cases o with
  | none =>
   rw[e] at K
   exact Zf K
  | some v =>
   rw[e] at K
   obtain⟨u,e1,q⟩:=N.st.at_ i v e
   exact XQ (J0u (X:=X.wish E) hN hv hd hcd) N.inv ⟨u,e1,λ u' s' I' r'=>K u' s' H ι ⟨I',N.rel,N.st⟩ .refl ⟨u,r',q⟩⟩
theorem J2d {i j pos}:PEi ce X (.Constant (.int i) j pos) (eC (.int i)):=λ _ _ _ H ι _ _ _ E N K=>XQ (J0r (X:=X.wish E)) N.inv λ u' s' I' r'=>K u' s' H ι ⟨I',N.rel,N.st⟩ .refl ⟨_,r',rfl⟩
theorem i_bl {i j pos}:PEi ce X (.Constant (.bool i) j pos) (eC (.bl i)):=λ _ _ _ H ι _ _ _ E N K=>XQ (J20 (X:=X.wish E)) N.inv λ u' s' I' r'=>K u' s' H ι ⟨I',N.rel,N.st⟩ .refl ⟨_,r',rfl⟩
theorem J2g {j pos}:PEi ce X (.Constant .none j pos) (eC .non):=λ _ _ _ H ι _ _ _ E N K=>XQ (J0s (X:=X.wish E)) N.inv λ u' s' I' r'=>K u' s' H ι ⟨I',N.rel,N.st⟩ .refl ⟨_,r',rfl⟩
theorem J2h {i j pos}:PEi ce X (.Constant (.str i) j pos) (eC (.str i)):=λ _ _ _ H ι _ _ _ E N K=>XQ (J0t (X:=X.wish E)) N.inv λ u' s' I' r'=>K u' s' H ι ⟨I',N.rel,N.st⟩ .refl ⟨_,r',rfl⟩
theorem Jzl (hg:Gl X x)(hm:X.mg x=Za u)(r:RelV v u)(q:∀ι H,RV X.K ι H iv v)(hd:(x==("__debug__":Str))=Zk:=by decide):PEi ce X (.Name x pos) (eC iv) :=
 λ _ _ _ H ι _ _ _ E N K=>XQ (Jxw (X:=X.wish E) hg hm r hd) N.inv λ u' s' I' r'=>K u' s' H ι ⟨I',N.rel,N.st⟩ .refl ⟨_,r',q _ _⟩
theorem J19 (ho:OpI ce X (ZaU op) f)(ha:PEi ce X a ma)(hb:PEi ce X b mb):PEi ce X (.BinOp a op b pos) (Jc f ma mb) :=
 λ pj s σ H ι σi h Q E N K=>wpAny_BinOp (ha.run N K λ x h1 u s1 H1 ι1 N1 n1 r1 K1=>hb.run N1 K1 λ y h2 w s2 H2 ι2 N2 n2 r2 K2=>ho pj s2 σ H2 ι2 σi h2 x y u w Q E N2 (r1.mono n2) r2 K2)
theorem i_un (ho:UnI ce X (unaryOp op) f)(ha:PEi ce X a ma):PEi ce X (.UnaryOp op a pos) (eUn f ma) :=
 λ pj s σ H ι σi h Q E N K=>UnaryOp_ (ha.run N K λ x h1 u s1 H1 ι1 N1 n1 r1 K1=>ho pj s1 σ H1 ι1 σi h1 x u Q E N1 r1 K1)
theorem J2b (ho:OpI ce X (Zav op) f)(ha:PEi ce X a ma)(hb:PEi ce X b mb)(hm:Zcr op b=Zk:=by assumption):PEi ce X (.Compare a [op] [b] pos) (Jc f ma mb) :=
 λ pj s σ H ι σi h Q E N K=>wpAny_Compare1 (ha.run N K λ x h1 u s1 H1 ι1 N1 n1 r1 K1=>hb.run N1 K1 λ y h2 w s2 H2 ι2 N2 n2 r2 K2=>ho pj s2 σ H2 ι2 σi h2 x y u w Q E N2 (r1.mono n2) r2 K2) hm
noncomputable def asB:IV->IH->Res Bool
 | .bl b,h=>.ok b h
 | _,_=>.stuck
theorem Kont.asB {r:Res IV}(K:Kont ce X RB pj ι σi σ H (r.bind asB) Q E) :
  Kont ce X RU pj ι σi σ H r (λ v s=>Zy (Z9 X.prog X.w) X.A (truthy v) Q E s) E:=by
 cases r with
 | exc n h=>exact K
 | stuck=>exact K
 | ok v h =>
  intro u s' H' ι' N n q
  obtain⟨x,rx,q⟩:=q
  cases v with
  | bl b =>
   have e:x=.bl b:=q
   subst e
   cases rx
   exact ZaK (K b s' H' ι' N n rfl)
  | _=>exact Zf K
theorem Res.bind_bind (r:Res α)(f:α->IH->Res β)(g:β->IH->Res γ):(r.bind f).bind g=r.bind λ x h=>(f x h).bind g:=by
 cases r<;>rfl
theorem J3f (ho:OpI ce X (Zav op) f)(ha:PEi ce X a ma)(hb:PEi ce X b mb)(hm:Zcr op b=Zk:=by assumption):PTi ce X (.Compare a [op] [b] pos) (Jh asB (Jc f ma mb)) :=
 λ pj s σ H ι σi h Q E N K=>by
  have K':Kont ce X RB pj ι σi σ H ((ma σi h).bind λ x h1=>(mb σi h1).bind λ y h2=>(f x y h2).bind asB) Q E:=by
   unfold Jh Jc at K
   rw[Res.bind_bind] at K
   simp only[Res.bind_bind] at K
   exact K
  exact wpAny_isTrue_Compare1 (ha.run N K' λ x h1 u s1 H1 ι1 N1 n1 r1 K1=>hb.run N1 K1 λ y h2 w s2 H2 ι2 N2 n2 r2 K2=>ho pj s2 σ H2 ι2 σi h2 x y u w _ E N2 (r1.mono n2) r2 (Kont.asB K2)) hm
theorem J1f {tr:IV->IH->Res Bool}(ht:TrI ce X tr)(ha:PEi ce X a ma)(he:∀whole,isTrue a X.env whole=(do let v<-whole;Ze3 a.pos;Zb7 [v] (truthy v)):=by intro _;rfl):PTi ce X a (Jh tr ma) :=
 λ pj s σ H ι σi h Q E N K=>isTrue_plain (ha.run N K λ x h1 u s1 H1 ι1 N1 n1 r1 K1=>ht pj s1 σ H1 ι1 σi h1 x u Q E N1 r1 K1) (he _)
variable {rest:List Expr}{ta tb:T1}
theorem Jyj (ha:PTi ce X a ta):PWi ce X (.BoolOp .And [a] pos) ta:=λ wh pj s σ H ι σi h Q E N K=>by
 refine isTrue_and (ha pj s σ H ι σi h _ E N ?_)
 cases e:ta σi h with
 | ok v h' =>
  rw[e] at K
  intro u s' H' ι' N' n' r
  have r':u=v:=r
  subst r'
  cases u with
  | true=>exact isTrue_and_nil (K Zh s' H' ι' N' n' rfl)
  | false=>exact K Zk s' H' ι' N' n' rfl
 | exc n h'=>rw[e] at K;exact K
 | stuck=>rw[e] at K;exact K
theorem J1i (ha:PTi ce X a ta):PWi ce X (.BoolOp .Or [a] pos) ta:=λ wh pj s σ H ι σi h Q E N K=>by
 refine isTrue_or (ha pj s σ H ι σi h _ E N ?_)
 cases e:ta σi h with
 | ok v h' =>
  rw[e] at K
  intro u s' H' ι' N' n' r
  have r':u=v:=r
  subst r'
  cases u with
  | false=>exact isTrue_or_nil (K Zk s' H' ι' N' n' rfl)
  | true=>exact K Zh s' H' ι' N' n' rfl
 | exc n h'=>rw[e] at K;exact K
 | stuck=>rw[e] at K;exact K
theorem J1h (ha:PTi ce X a ta)(hb:PWi ce X (.BoolOp .And (b::rest) pos) tb):PWi ce X (.BoolOp .And (a::b::rest) pos) (QK ta tb):=λ wh pj s σ H ι σi h Q E N K =>
 isTrue_and (ha.run N K λ c h1 u s1 H1 ι1 N1 n1 r1 K1=>by
  have r':u=c:=r1
  subst r'
  cases u with
  | true=>exact hb wh pj s1 σ H1 ι1 σi h1 Q E N1 K1
  | false=>exact K1 Zk s1 H1 ι1 N1 .refl rfl)
theorem J3j (ha:PTi ce X a ta)(hb:PWi ce X (.BoolOp .Or (b::rest) pos) tb):PWi ce X (.BoolOp .Or (a::b::rest) pos) (tOrI ta tb):=λ wh pj s σ H ι σi h Q E N K =>
 isTrue_or (ha.run N K λ c h1 u s1 H1 ι1 N1 n1 r1 K1=>by
  have r':u=c:=r1
  subst r'
  cases u with
  | false=>exact hb wh pj s1 σ H1 ι1 σi h1 Q E N1 K1
  | true=>exact K1 Zh s1 H1 ι1 N1 .refl rfl)
theorem PWi.t (h:PWi ce X a ta):PTi ce X a ta:=h _
theorem J3g (ha:PTi ce X a ta):PTi ce X (.UnaryOp .Not a pos) (JD ta):=λ pj s σ H ι σi h Q E N K =>
 isTrue_not (ha.run N K λ c h1 u s1 H1 ι1 N1 n1 r1 K1=>by
  have r':u=c:=r1
  subst r'
  exact K1 (!u) s1 H1 ι1 N1 .refl rfl)
theorem Jzr {op}(h:PEi ce X a ma):PEi ce X (.BoolOp op [a] pos) ma:=λ pj s σ H ι σi h' Q E N K=>BoolOp_one (h pj s σ H ι σi h' Q E N K)
theorem J18 (ht:TrI ce X tr)(ha:PEi ce X a ma)(hb:PEi ce X (.BoolOp .And (b::rest) pos) mb):PEi ce X (.BoolOp .And (a::b::rest) pos) (eAnd ma mb tr):=λ pj s σ H ι σi h Q E N K =>
 BoolOp_and (ha.run N K λ x h1 u s1 H1 ι1 N1 n1 r1 K1=>by
  refine ht pj s1 σ H1 ι1 σi h1 x u _ E N1 r1 ?_
  cases e:tr x h1 with
  | ok c h2 =>
   rw[e] at K1
   intro d s2 H2 ι2 N2 n2 r2
   have r':d=c:=r2
   subst r'
   have K2:=Kont.mono (r:=if d=Zh then mb σi h2 else .ok x h2) K1 n2
   cases d with
   | true=>exact hb pj s2 σ H2 ι2 σi h2 Q E N2 K2
   | false=>exact K2 u s2 H2 ι2 N2 .refl (r1.mono n2)
  | exc n h'=>rw[e] at K1;exact K1
  | stuck=>rw[e] at K1;exact K1)
theorem i_or (ht:TrI ce X tr)(ha:PEi ce X a ma)(hb:PEi ce X (.BoolOp .Or (b::rest) pos) mb):PEi ce X (.BoolOp .Or (a::b::rest) pos) (eOr ma mb tr):=λ pj s σ H ι σi h Q E N K =>
 BoolOp_or (ha.run N K λ x h1 u s1 H1 ι1 N1 n1 r1 K1=>by
  refine ht pj s1 σ H1 ι1 σi h1 x u _ E N1 r1 ?_
  cases e:tr x h1 with
  | ok c h2 =>
   rw[e] at K1
   intro d s2 H2 ι2 N2 n2 r2
   have r':d=c:=r2
   subst r'
   have K2:=Kont.mono (r:=if d=Zh then .ok x h2 else mb σi h2) K1 n2
   cases d with
   | false=>exact hb pj s2 σ H2 ι2 σi h2 Q E N2 K2
   | true=>exact K2 u s2 H2 ι2 N2 .refl (r1.mono n2)
  | exc n h'=>rw[e] at K1;exact K1
  | stuck=>rw[e] at K1;exact K1)
def X6 (tr:IV->IH->Res Bool):IV->IH->Res IV:=λ x h=>(tr x h).bind λ c h1=>.ok (.bl (!c)) h1
theorem Jyk (ht:TrI ce X tr):UnI ce X (unaryOp .Not) (X6 tr):=λ pj s σ H ι σi h x v Q E N r K=>by
 refine not_of (ht pj s σ H ι σi h x v _ E N r ?_)
 unfold X6 at K
 cases e:tr x h with
 | ok c h2 =>
  rw[e] at K
  intro d s2 H2 ι2 N2 n2 r2
  have r':d=c:=r2
  subst r'
  exact K _ s2 H2 ι2 N2 n2 ⟨.bl (!d),rfl,rfl⟩
 | exc n h'=>rw[e] at K;exact K
 | stuck=>rw[e] at K;exact K
theorem Jw9 {t:Expr}{mt:T1}(ht:PTi ce X t mt)(ha:PEi ce X a ma)(hb:PEi ce X b mb):PEi ce X (.IfExp t a b pos) (eIf mt ma mb):=λ pj s σ H ι σi h Q E N K =>
 wpAny_IfExp (ht.run N K λ c h1 u s1 H1 ι1 N1 n1 r1 K1=>by
  have r':u=c:=r1
  subst r'
  cases u with
  | true=>exact ha pj s1 σ H1 ι1 σi h1 Q E N1 K1
  | false=>exact hb pj s1 σ H1 ι1 σi h1 Q E N1 K1)
theorem Jw8 (ho:OpI ce X (Zav op) f)(ho':OpI ce X (Zav op') g)(ha:PEi ce X a ma)(hb:PEi ce X b mb)(hc:PEi ce X c mc) 
  (hm:Zd7 [op,op'] [b,c]=Zk:=by with_unfolding_all rfl):PEi ce X (.Compare a [op,op'] [b,c] pos) (JT f g ma mb mc):=λ pj s σ H ι σi h Q E N K =>
 Compare_chain (ha.run N K λ x h1 u s1 H1 ι1 N1 n1 r1 K1=>chain_link (hb.run N1 K1 λ y h2 w s2 H2 ι2 N2 n2 r2 K2=>by
  refine ho pj s2 σ H2 ι2 σi h2 x y u w _ E N2 (r1.mono n2) r2 ?_
  cases e:f x y h2 with
  | exc n h'=>rw[e] at K2;exact K2
  | stuck=>rw[e] at K2;exact K2
  | ok k h3 =>
   rw[e] at K2
   intro d s3 H3 ι3 N3 n3 r3
   obtain⟨z,rz,q⟩:=r3
   cases k with
   | bl k =>
    have e':z=.bl k:=q
    subst e'
    cases rz
    refine ZaK ?_
    have K3:=Kont.mono (r:=match IV.bl k with|.bl Zh=>(mc σi h3).bind λ z h4=>g y z h4|.bl Zk=>.ok (.bl Zk) h3|_=>.stuck) K2 n3
    cases k with
    | false=>exact ite_ff (K3 _ s3 H3 ι3 N3 .refl ⟨.bl Zk,rfl,rfl⟩)
    | true=>exact ite_tt (chain_last (hc.run N3 K3 λ z h4 w' s4 H4 ι4 N4 n4 r4 K4=>ho' pj s4 σ H4 ι4 σi h4 y z w w' Q E N4 ((r2.mono n3).mono n4) r4 K4))
   | _=>exact Zf K2)) hm
theorem Jyi (ho:OpI ce X (Zav op) f)(ho':OpI ce X (Zav op') g)(ha:PEi ce X a ma)(hb:PEi ce X b mb)(hc:PEi ce X c mc) 
  (hm:Zd7 [op,op'] [b,c]=Zk:=by with_unfolding_all rfl):PTi ce X (.Compare a [op,op'] [b,c] pos) (Jh asB (JT f g ma mb mc)):=λ pj s σ H ι σi h Q E N K=>by
 have K':Kont ce X RB pj ι σi σ H ((ma σi h).bind λ x h1=>(mb σi h1).bind λ y h2=>(f x y h2).bind λ k h3=>(match k with|.bl Zh=>(mc σi h3).bind λ z h4=>g y z h4|.bl Zk=>.ok (.bl Zk) h3|_=>.stuck:Res IV).bind asB) Q E:=by
  unfold Jh JT at K
  rw[Res.bind_bind] at K
  simp only[Res.bind_bind] at K
  exact K
 refine isTrue_chain (ha.run N K' λ x h1 u s1 H1 ι1 N1 n1 r1 K1=>test_link (hb.run N1 K1 λ y h2 w s2 H2 ι2 N2 n2 r2 K2=>?_)) hm
 refine ho pj s2 σ H2 ι2 σi h2 x y u w _ E N2 (r1.mono n2) r2 ?_
 cases e:f x y h2 with
 | exc n h'=>rw[e] at K2;exact K2
 | stuck=>rw[e] at K2;exact K2
 | ok k h3 =>
  rw[e] at K2
  intro d s3 H3 ι3 N3 n3 r3
  obtain⟨z,rz,q⟩:=r3
  cases k with
  | bl k =>
   have e':z=.bl k:=q
   subst e'
   cases rz
   refine ZaK ?_
   have K3:=Kont.mono (r:=(match IV.bl k with|.bl Zh=>(mc σi h3).bind λ z h4=>g y z h4|.bl Zk=>.ok (.bl Zk) h3|_=>.stuck:Res IV).bind asB) K2 n3
   cases k with
   | false=>exact ite_ff (K3 _ s3 H3 ι3 N3 .refl rfl)
   | true =>
    have K3':Kont ce X RB pj ι3 σi σ H3 ((mc σi h3).bind λ z h4=>(g y z h4).bind asB) Q E:=by
     have:=K3
     dsimp only at this
     rw[Res.bind_bind] at this
     exact this
    exact ite_tt (test_last (hc.run N3 K3' λ z h4 w' s4 H4 ι4 N4 n4 r4 K4=>ho' pj s4 σ H4 ι4 σi h4 y z w w' _ E N4 ((r2.mono n3).mono n4) r4 (Kont.asB K4)))
  | _=>exact Zf K2
variable {es:List Expr}{mr:A1}
theorem RUs.nil {K:W.Frag}{ι:List Zp}{H:Hp}:RUs K ι H [] []:=⟨[],.nil,rfl⟩
theorem RUs.cons {K:W.Frag}{ι:List Zp}{H:Hp}{x:IV}{u:Ze}{xs:List IV}{us:List Ze}(a:RU K ι H x u)(b:RUs K ι H xs us):RUs K ι H (x::xs) (u::us) :=
 let ⟨v,r,q⟩:=a;let ⟨vs,rs,qs⟩:=b;⟨v::vs,.cons r rs,v,vs,rfl,q,qs⟩
theorem Vc:PAi ce X [] Jd:=λ _ pj s σ H ι σi h Q E N K=>Calls.spliced_nil (K [] s H ι N .refl .nil)
theorem QO (ha:PEi ce X a ma)(hr:PAi ce X es mr)(hs:ZD (a::es) X.env=(Zk,ZaY a X.env)::ZD es X.env:=by rfl):PAi ce X (a::es) (Jb ma mr):=by
 intro pos pj s σ H ι σi h Q E N K
 rw[hs]
 show Zy _ _ (spliced ((Zk,ZaY a X.env)::Zbq pos (ZD es X.env))) _ _ s
 exact Zdk (ha.run N K λ x h1 u s1 H1 ι1 N1 n1 r1 K1=>(hr pos).run N1 K1 λ xs h2 us s2 H2 ι2 N2 n2 r2 K2=>K2 _ s2 H2 ι2 N2 .refl (.cons (r1.mono n2) r2))
end
noncomputable def Jl:IV->IV->IH->Res IV
 | .int i,.int j,h=>.ok (.int (i+j)) h
 | .str x,.str y,h=>if x.length+y.length<=sizeLine then .ok (.str (x++y)) h else .stuck
 | .ref i,.ref j,h=>match h[i]?,h[j]? with
  | some (.lst xs),Za (.lst ys)=>if xs.length+ys.length<=sizeLine then .ok (.ref h.length) (h++[.lst (xs++ys)]) else .stuck
  | _,_=>.stuck
 | .tup xs,.tup ys,h=>if xs≠[]/\ys≠[]/\xs.length+ys.length<=sizeLine then .ok (.tup (xs++ys)) h else .stuck
 | _,_,_=>.stuck
noncomputable def Qe:IV->IV->IH->Res IV
 | .int i,.int j,h=>.ok (.int (i-j)) h
 | _,_,_=>.stuck
def Vb (i j:Int):Prop:=i.natAbs<2^64∨j.natAbs<2^64∨(i.natAbs.log2<1048576/\j.natAbs.log2<1048576)
instance (i j:Int):Decidable (Vb i j):=by unfold Vb;exact inferInstance
def X5:IV->IV->IH->Res IV
 | .int i,.int j,h=>if Vb i j then .ok (.int (i*j)) h else .stuck
 | .ref i,.int k,h=>match h[i]? with
  | some (.lst xs)=>if -(2^63)<=k/\k<2^63/\xs.length*k.toNat<=sizeLine then .ok (.ref h.length) (h++[.lst (ZR k.toNat xs).flatten]) else .stuck
  | _=>.stuck
 | _,_,_=>.stuck
def JO:IV->IV->IH->Res IV
 | .int i,.int j,h=>if 0<j/\j.natAbs.log2<9000 then .ok (.int (i/j)) h else .stuck
 | _,_,_=>.stuck
def Jv:IV->IV->IH->Res IV
 | .int i,.int j,h=>if 0<j then .ok (.int (i%j)) h else .stuck
 | _,_,_=>.stuck
def JE:IV->IV->IH->Res IV
 | .int i,.int j,h=>if 0<=j/\j<=1000000/\i.natAbs<2^64 then .ok (.int (i^j.toNat)) h else .stuck
 | _,_,_=>.stuck
noncomputable def Yw:IV->IH->Res IV
 | .int i,h=>.ok (.int (-i)) h
 | _,_=>.stuck
section
variable {ce:CeT}{X:Cx}
theorem fin0 {w:V}(N:Now ce X pj ι σi h σ H s)(K:Kont ce X RU pj ι σi σ H (.ok v h) Q E) 
  (q:RV X.K ι H v w):∀u s',Inv X pj σ H s'->RelV w u->Q u s':=λ u s' I r=>K u s' H ι ⟨I,N.rel,N.st⟩ .refl ⟨w,r,q⟩
theorem finA {io:IX}{o:HO}{Q:QvT}{E:QvT}(N:Now ce X pj ι σi h σ H s) 
  (K:Kont ce X RU pj ι σi σ H (.ok (.ref h.length) (h++[io])) Q E)(l:Zp)(e:H l=Zc)(r:RO ce X.K (ι++[l]) (upd H l o) l io):∀u s',Inv X pj σ (upd H l o) s'->RelV (.ref l) u->Q u s':=λ u s' I ru=>by
 obtain⟨R,n⟩:=N.rel.alloc e r
 refine K u s' _ _ ⟨I,R,N.st.mono n⟩ n ⟨.ref l,ru,l,rfl,?_⟩
 rw[<- N.rel.len,ZA (Zq _)]
 simp
theorem finT {xs:List IV}{vs:List V}{Q:QvT}{E:QvT}(N:Now ce X pj ι σi h σ H s) 
  (K:Kont ce X RU pj ι σi σ H (.ok (.tup xs) h) Q E)(l:Zp)(e:H l=Zc)(r:RVs X.K ι H xs vs):∀u s',Inv X pj σ (upd H l (.tup vs)) s'->RelV (.ref l) u->Q u s':=λ u s' I ru=>by
 obtain⟨R,n⟩:=N.rel.grow (o:=.tup vs) e
 exact K u s' _ _ ⟨I,R,N.st.mono n⟩ n ⟨.ref l,ru,l,vs,rfl,SqT.of J7,RVs.mono n _ _ r⟩
theorem RVs.new {K:W.Frag}{ι:List Zp}{H:Hp}{l:Zp}{o:HO}(e:H l=Zc){xs:List IV}{vs:List V}(r:RVs K ι H xs vs):RVs K (ι++[l]) (upd H l o) xs vs:=RVs.mono ⟨⟨[l],rfl⟩,Ext.upd_new e⟩ _ _ r
theorem Now.at (N:Now ce X pj ι σi h σ H s){i:Nat}(e:h[i]?=Za o)(ha:ι[i]?=Za a):RO ce X.K ι H a o:=by
 obtain⟨b,e1,r⟩:=N.rel.at_ i o e
 rw[ha] at e1
 cases e1
 exact r
theorem J2n:OpI ce X (ZaU .Add) Jl:=by
 intro pj s σ H ι σi h x y v u Q E N rx ry K
 obtain⟨xv,rx,qx⟩:=rx
 obtain⟨yv,ry,qy⟩:=ry
 cases x with
 | int i =>
  cases y with
  | int j =>
   have e1:xv=.int i:=qx
   have e2:yv=.int j:=qy
   subst e1 e2
   exact Qb (J0i (X:=X.wish E)) N.inv rx ry ⟨i,j,rfl,rfl,fin0 N K rfl⟩
  | _=>exact Zf K
 | str i =>
  cases y with
  | str j =>
   have e1:xv=.str i:=qx
   have e2:yv=.str j:=qy
   subst e1 e2
   dsimp only[Jl] at K
   split at K
   ·rename_i hz
    exact Qb (Jo2 (X:=X.wish E)) N.inv rx ry ⟨i,j,rfl,rfl,hz,fin0 N K rfl⟩
   ·exact Zf K
  | _=>exact Zf K
 | tup xs =>
  cases y with
  | tup ys =>
   obtain⟨a,vs,e1,sa,ra⟩:=qx
   obtain⟨b,ws,e2,sb,rb⟩:=qy
   subst e1 e2
   dsimp only[Jl] at K
   split at K
   ·rename_i hz
    obtain⟨h1,h2,h3⟩:=hz
    have n1:vs≠[]:=λ z=>h1 (by have:=ra.length;rw[z] at this;exact ZaM this.symm)
    have n2:ws≠[]:=λ z=>h2 (by have:=rb.length;rw[z] at this;exact ZaM this.symm)
    exact Qb (Jxt (X:=X.wish E)) N.inv rx ry ⟨a,b,vs,ws,rfl,rfl,sa,sb,n1,by rw[ra.length,rb.length];exact h3,λ z=>absurd z n2,λ _ p hp=>finT N K p hp (ra.append rb)⟩
   ·exact Zf K
  | _=>exact Zf K
 | ref i =>
  cases y with
  | ref j =>
   obtain⟨a,e1,ha⟩:=qx
   obtain⟨b,e2,hb⟩:=qy
   subst e1 e2
   dsimp only[Jl] at K
   cases hi:h[i]? with
   | none=>rw[hi] at K;exact Zf K
   | some oi =>
    cases hj:h[j]? with
    | none=>rw[hi,hj] at K;cases oi<;>exact Zf K
    | some oj =>
     rw[hi,hj] at K
     cases oi with
     | lst xs =>
      cases oj with
      | lst ys =>
       dsimp only at K
       split at K
       ·rename_i hz
        obtain⟨vs,e1,r1⟩:=N.at hi ha
        obtain⟨ws,e2,r2⟩:=N.at hj hb
        exact Qb (J0j (X:=X.wish E)) N.inv rx ry ⟨a,b,vs,ws,rfl,rfl,e1,e2,by rw[r1.length,r2.length];exact hz,λ p hp=>finA N K p hp ⟨_,J7,RVs.new hp (r1.append r2)⟩⟩
       ·exact Zf K
      | _=>exact Zf K
     | _=>exact Zf K
  | _=>exact Zf K
 | _=>cases y<;>exact Zf K
theorem J2t:OpI ce X (ZaU .Sub) Qe:=by
 intro pj s σ H ι σi h x y v u Q E N rx ry K
 obtain⟨xv,rx,qx⟩:=rx
 obtain⟨yv,ry,qy⟩:=ry
 cases x with
 | int i =>
  cases y with
  | int j =>
   have e1:xv=.int i:=qx
   have e2:yv=.int j:=qy
   subst e1 e2
   exact Qb (J0n (X:=X.wish E)) N.inv rx ry ⟨i,j,rfl,rfl,fin0 N K rfl⟩
  | _=>exact Zf K
 | _=>cases y<;>exact Zf K
theorem Vb.ok (h:Vb i j):IntMulOk i j:=by
 rcases h with h|h|⟨h1,h2⟩
 ·exact .of_left (intBits_le_64 (by omega) (by omega))
 ·exact .of_right (intBits_le_64 (by omega) (by omega))
 ·refine .of_bits ?_ ?_
  ·unfold Builtin.Int.intBits
   split
   ·exact ZY _
   ·have:(2:Nat)^20=1048576:=by decide
    omega
  ·unfold Builtin.Int.intBits
   split
   ·exact ZY _
   ·have:(2:Nat)^20=1048576:=by decide
    omega
theorem Jxu:OpR X (ZaU .Mult) (rI Vb λ i j=>.int (i*j)):=opI λ _ _ _ _ _ _ _ hc q=>mul_int q hc.ok
theorem J2r:OpI ce X (ZaU .Mult) X5:=by
 intro pj s σ H ι σi h x y v u Q E N rx ry K
 obtain⟨xv,rx,qx⟩:=rx
 obtain⟨yv,ry,qy⟩:=ry
 cases x with
 | int i =>
  cases y with
  | int j =>
   have e1:xv=.int i:=qx
   have e2:yv=.int j:=qy
   subst e1 e2
   dsimp only[X5] at K
   split at K
   ·rename_i hz
    exact Qb (Jxu (X:=X.wish E)) N.inv rx ry ⟨i,j,rfl,rfl,hz,fin0 N K rfl⟩
   ·exact Zf K
  | _=>exact Zf K
 | ref i =>
  cases y with
  | int k =>
   obtain⟨a,e1,ha⟩:=qx
   have e2:yv=.int k:=qy
   subst e1 e2
   dsimp only[X5] at K
   cases hi:h[i]? with
   | none=>rw[hi] at K;exact Zf K
   | some oi =>
    rw[hi] at K
    cases oi with
    | lst xs =>
     dsimp only at K
     split at K
     ·rename_i hz
      obtain⟨vs,e1,r1⟩:=N.at hi ha
      have rr:∀n:Nat,RVs X.K ι H (ZR n xs).flatten (ZR n vs).flatten:=λ n=>by
       induction n with
       | zero=>exact rfl
       | succ n ih =>
        rw[Zbg,Zbg,Zb6,Zb6]
        exact r1.append ih
      exact Qb (J0m (X:=X.wish E)) N.inv rx ry ⟨a,k,vs,rfl,rfl,e1,hz.1,hz.2.1,by rw[r1.length];exact hz.2.2,λ p hp=>finA N K p hp ⟨_,J7,RVs.new hp (rr _)⟩⟩
     ·exact Zf K
    | _=>exact Zf K
  | _=>exact Zf K
 | _=>cases y<;>exact Zf K
theorem Jtw:OpR X (ZaU .FloorDiv) (rI (λ _ j=>0<j/\j.natAbs.log2<9000) λ i j=>.int (i/j)):=opI λ i j _ _ _ _ _ hc q=>by
 have h1:(0:Int)<j:=hc.1
 exact floordiv_int (by omega) (by rw[Int.fdiv_eq_ediv_of_nonneg i (by omega)];exact q) (.inl (PyProof.noPylong_of_log2 hc.2))
theorem J0f:OpI ce X (ZaU .FloorDiv) JO:=by
 intro pj s σ H ι σi h x y v u Q E N rx ry K
 obtain⟨xv,rx,qx⟩:=rx
 obtain⟨yv,ry,qy⟩:=ry
 cases x with
 | int i =>
  cases y with
  | int j =>
   have e1:xv=.int i:=qx
   have e2:yv=.int j:=qy
   subst e1 e2
   dsimp only[JO] at K
   split at K
   ·rename_i hz
    exact Qb (Jtw (X:=X.wish E)) N.inv rx ry ⟨i,j,rfl,rfl,hz,fin0 N K rfl⟩
   ·exact Zf K
  | _=>exact Zf K
 | _=>cases y<;>exact Zf K
theorem J2q:OpI ce X (ZaU .Mod) Jv:=by
 intro pj s σ H ι σi h x y v u Q E N rx ry K
 obtain⟨xv,rx,qx⟩:=rx
 obtain⟨yv,ry,qy⟩:=ry
 cases x with
 | int i =>
  cases y with
  | int j =>
   have e1:xv=.int i:=qx
   have e2:yv=.int j:=qy
   subst e1 e2
   dsimp only[Jv] at K
   split at K
   ·rename_i hz
    exact Qb (J0k (X:=X.wish E)) N.inv rx ry ⟨i,j,rfl,rfl,hz,fin0 N K rfl⟩
   ·exact Zf K
  | _=>exact Zf K
 | _=>cases y<;>exact Zf K
theorem J2s:OpI ce X (ZaU .Pow) JE:=by
 intro pj s σ H ι σi h x y v u Q E N rx ry K
 obtain⟨xv,rx,qx⟩:=rx
 obtain⟨yv,ry,qy⟩:=ry
 cases x with
 | int i =>
  cases y with
  | int j =>
   have e1:xv=.int i:=qx
   have e2:yv=.int j:=qy
   subst e1 e2
   dsimp only[JE] at K
   split at K
   ·rename_i hz
    exact Qb (J0l (X:=X.wish E)) N.inv rx ry ⟨i,j,rfl,rfl,hz,fin0 N K rfl⟩
   ·exact Zf K
  | _=>exact Zf K
 | _=>cases y<;>exact Zf K
theorem J3k:UnI ce X (unaryOp .USub) Yw:=by
 intro pj s σ H ι σi h x v Q E N rx K
 obtain⟨xv,rx,qx⟩:=rx
 cases x with
 | int i =>
  have e1:xv=.int i:=qx
  subst e1
  exact J1k (J1j (X:=X.wish E)) N.inv rx ⟨i,rfl,fin0 N K rfl⟩
 | _=>exact Zf K
noncomputable def cLt:IV->IV->IH->Res IV
 | .int i,.int j,h=>.ok (.bl (decide (i<j))) h
 | .str x,.str y,h=>.ok (.bl (decide (x.cps.toList<y.cps.toList))) h
 | _,_,_=>.stuck
noncomputable def cLe:IV->IV->IH->Res IV
 | .int i,.int j,h=>.ok (.bl (decide (i<=j))) h
 | .str x,.str y,h=>.ok (.bl (!decide (y.cps.toList<x.cps.toList))) h
 | _,_,_=>.stuck
noncomputable def cGt:IV->IV->IH->Res IV
 | .int i,.int j,h=>.ok (.bl (decide (j<i))) h
 | _,_,_=>.stuck
noncomputable def cGe:IV->IV->IH->Res IV
 | .int i,.int j,h=>.ok (.bl (decide (j<=i))) h
 | _,_,_=>.stuck
theorem o_lt:OpI ce X (Zav .Lt) cLt:=by
 intro pj s σ H ι σi h x y v u Q E N rx ry K
 obtain⟨xv,rx,qx⟩:=rx
 obtain⟨yv,ry,qy⟩:=ry
 cases x with
 | int i =>
  cases y with
  | int j =>
   have e1:xv=.int i:=qx
   have e2:yv=.int j:=qy
   subst e1 e2
   exact Qb (J2y (X:=X.wish E)) N.inv rx ry ⟨i,j,rfl,rfl,fin0 N K rfl⟩
  | _=>exact Zf K
 | str i =>
  cases y with
  | str j =>
   have e1:xv=.str i:=qx
   have e2:yv=.str j:=qy
   subst e1 e2
   exact Qb (Jrc (X:=X.wish E)) N.inv rx ry ⟨i,j,rfl,rfl,fin0 N K rfl⟩
  | _=>exact Zf K
 | _=>cases y<;>exact Zf K
theorem o_le:OpI ce X (Zav .LtE) cLe:=by
 intro pj s σ H ι σi h x y v u Q E N rx ry K
 obtain⟨xv,rx,qx⟩:=rx
 obtain⟨yv,ry,qy⟩:=ry
 cases x with
 | int i =>
  cases y with
  | int j =>
   have e1:xv=.int i:=qx
   have e2:yv=.int j:=qy
   subst e1 e2
   exact Qb (J2x (X:=X.wish E)) N.inv rx ry ⟨i,j,rfl,rfl,fin0 N K rfl⟩
  | _=>exact Zf K
 | str i =>
  cases y with
  | str j =>
   have e1:xv=.str i:=qx
   have e2:yv=.str j:=qy
   subst e1 e2
   obtain⟨t,rfl⟩:=rx
   obtain⟨t',rfl⟩:=ry
   exact PySem.P.le_str (fin0 N K rfl _ s N.inv rfl)
  | _=>exact Zf K
 | _=>cases y<;>exact Zf K
theorem o_gt:OpI ce X (Zav .Gt) cGt:=by
 intro pj s σ H ι σi h x y v u Q E N rx ry K
 obtain⟨xv,rx,qx⟩:=rx
 obtain⟨yv,ry,qy⟩:=ry
 cases x with
 | int i =>
  cases y with
  | int j =>
   have e1:xv=.int i:=qx
   have e2:yv=.int j:=qy
   subst e1 e2
   exact Qb (J2w (X:=X.wish E)) N.inv rx ry ⟨i,j,rfl,rfl,fin0 N K rfl⟩
  | _=>exact Zf K
 | _=>cases y<;>exact Zf K
theorem o_ge:OpI ce X (Zav .GtE) cGe:=by
 intro pj s σ H ι σi h x y v u Q E N rx ry K
 obtain⟨xv,rx,qx⟩:=rx
 obtain⟨yv,ry,qy⟩:=ry
 cases x with
 | int i =>
  cases y with
  | int j =>
   have e1:xv=.int i:=qx
   have e2:yv=.int j:=qy
   subst e1 e2
   exact Qb (J2v (X:=X.wish E)) N.inv rx ry ⟨i,j,rfl,rfl,fin0 N K rfl⟩
  | _=>exact Zf K
 | _=>cases y<;>exact Zf K
noncomputable def tru:IV->IH->Res Bool
 | .non,h=>.ok Zk h
 | .bl b,h=>.ok b h
 | .int i,h=>.ok (i != 0) h
 | .str x,h=>if x.length<=sizeLine then .ok ((x.length:Int) != 0) h else .stuck
 | .tup xs,h=>.ok (!xs.isEmpty) h
 | .rol xs,h=>.ok (!xs.isEmpty) h
 | .ref i,h=>match h[i]? with
  | some (.lst xs)=>.ok (!xs.isEmpty) h
  | some (.dct kvs)=>.ok (!kvs.isEmpty) h
  | _=>.stuck
theorem RVs.empty {K:W.Frag}{ι:List Zp}{H:Hp}{xs:List IV}{vs:List V}(r:RVs K ι H xs vs):vs.isEmpty=xs.isEmpty:=by
 have:=r.length
 cases xs<;>cases vs<;>simp_all
theorem RPs.empty {κ:Type}{K:W.Frag}{ι:List Zp}{H:Hp}{xs:List (κ×IV)}{vs:List (κ×V)}(r:RPs K ι H xs vs):vs.isEmpty=xs.isEmpty:=by
 have:=r.length
 cases xs<;>cases vs<;>simp_all
theorem finB (N:Now ce X pj ι σi h σ H s)(K:Kont ce X RB pj ι σi σ H (.ok c h) Q E) :
  ∀s',Inv X pj σ H s'->Q c s':=λ s' I=>K c s' H ι ⟨I,N.rel,N.st⟩ .refl rfl
theorem Y2:TrI ce X tru:=by
 intro pj s σ H ι σi h x v Q E N rx K
 obtain⟨xv,rx,qx⟩:=rx
 cases x with
 | non =>
  have e1:xv=.non:=qx
  subst e1
  exact VP (VO (X:=X.wish E)) N.inv rx ⟨_,rfl,finB N K⟩
 | bl b =>
  have e1:xv=.bl b:=qx
  subst e1
  exact VP (VO (X:=X.wish E)) N.inv rx ⟨_,rfl,finB N K⟩
 | int i =>
  have e1:xv=.int i:=qx
  subst e1
  exact VP (VO (X:=X.wish E)) N.inv rx ⟨_,rfl,finB N K⟩
 | str y =>
  have e1:xv=.str y:=qx
  subst e1
  dsimp only[tru] at K
  split at K
  ·rename_i hz
   exact VP (VO (X:=X.wish E)) N.inv rx ⟨_,⟨hz,rfl⟩,finB N K⟩
  ·exact Zf K
 | tup xs =>
  obtain⟨a,vs,e1,sa,ra⟩:=qx
  subst e1
  exact VP (VO (X:=X.wish E)) N.inv rx ⟨!xs.isEmpty,.inr (.inl ⟨vs,sa,by rw[ra.empty]⟩),finB N K⟩
 | rol xs =>
  obtain⟨a,vs,e1,sa,ra⟩:=qx
  subst e1
  exact VP (VO (X:=X.wish E)) N.inv rx ⟨!xs.isEmpty,.inl ⟨vs,sa.sq,by rw[ra.empty]⟩,finB N K⟩
 | ref i =>
  obtain⟨a,e1,ha⟩:=qx
  subst e1
  dsimp only[tru] at K
  cases hi:h[i]? with
  | none=>rw[hi] at K;exact Zf K
  | some oi =>
   rw[hi] at K
   cases oi with
   | lst xs =>
    obtain⟨vs,e1,r1⟩:=N.at hi ha
    exact VP (VO (X:=X.wish E)) N.inv rx ⟨!xs.isEmpty,.inl ⟨vs,SqL.of e1,by rw[r1.empty]⟩,finB N K⟩
   | dct kvs =>
    obtain⟨vs,e1,r1⟩:=N.at hi ha
    exact VP (VO (X:=X.wish E)) N.inv rx ⟨!kvs.isEmpty,.inr (.inr ⟨vs,e1,by rw[r1.empty]⟩),finB N K⟩
   | _=>exact Zf K
def JA (a:A1):E1:=λ σ h=>(a σ h).bind λ xs h1=>if xs.length<=sizeLine then .ok (.tup xs) h1 else .stuck
def J0 (a:A1):E1:=λ σ h=>(a σ h).bind λ xs h1=>if xs.length<=sizeLine then .ok (.ref h1.length) (h1++[.lst xs]) else .stuck
variable {es:List Expr}{mr:A1}{pos:Pos}
theorem J2i {x1}(hr:PAi ce X es mr):PEi ce X (.Tuple es x1 pos) (JA mr):=λ pj s σ H ι σi h Q E N K=>by
 refine wpAny_Tuple_spliced ((hr pos).run N K λ xs h1 us s1 H1 ι1 N1 n1 r1 K1=>?_)
 change Kont ce X RU pj ι1 σi σ H1 (if xs.length<=sizeLine then _ else _) Q E at K1
 split at K1
 ·rename_i hz
  obtain⟨vs,rv,qs⟩:=r1
  have hl:=rv.length
  have hl2:=qs.length
  have hf:H1 s1.heap.objs.size=Zc:=N1.inv.hok.fresh (Zq _)
  refine⟨by rw[<- hl,hl2];exact hz,?_⟩
  exact finT N1 K1 s1.heap.objs.size hf qs _ _ (N1.inv.laid (t':=s1.toks) (λ b u e=>Zg _ e) (Zq _) ⟨by rw[hl2];exact hz,us,rv,⟨_,Zz _ rfl,rfl,_,rfl⟩⟩) rfl
 ·exact Zf K1
theorem J2f (hr:PAi ce X es mr):PEi ce X (.List es pos) (J0 mr):=λ pj s σ H ι σi h Q E N K=>by
 refine wpAny_List_spliced ((hr pos).run N K λ xs h1 us s1 H1 ι1 N1 n1 r1 K1=>?_)
 change Kont ce X RU pj ι1 σi σ H1 (if xs.length<=sizeLine then _ else _) Q E at K1
 split at K1
 ·rename_i hz
  obtain⟨vs,rv,qs⟩:=r1
  have hl:=rv.length
  have hl2:=qs.length
  have hf:H1 s1.heap.objs.size=Zc:=N1.inv.hok.fresh (Zq _)
  refine⟨by rw[<- hl,hl2];exact hz,?_⟩
  exact finA N1 K1 s1.heap.objs.size hf ⟨_,J7,RVs.new hf qs⟩ _ _ (N1.inv.laid (t':=s1.toks) (λ b u e=>Zg _ e) (Zq _) ⟨by rw[hl2];exact hz,us,0,rv,Zz _ rfl⟩) rfl
 ·exact Zf K1
end
section
variable {prog:ZB}{w:Zab}{A:ZN}{E:QvT}{s:Zm}
theorem Jkp (hne:t≠it):∀(n i:Nat)(s:Zm)(Q:List Ze->Zm->Prop),s.heap.IsListIter it t i->s.heap.IsList t items->i+n<=items.size ->
  (∀h',h'.IsListIter it t (i+n)->Zc6 it s.heap h'->Q ((items.toList.drop i).take n) { s with heap:=h' })->Zy (Z9 prog w) A (draw (.ref it) n) Q E s
 | 0,i,s,Q,hit,_,_,hQ=>by
  show Zy _ _ (pure []) Q E s
  exact Zw (by simpa using hQ s.heap hit (Heap.SameBut.refl ..))
 | n+1,i,s,Q,hit,ht,hle,hQ=>by
  have hlt:i<items.size:=by omega
  show Zy _ _ (ZbG (.ref it)>>=_) Q E s
  refine Zd (ZdJ hit ht (x:=items[i]) (by simp[hlt]) λ h₁ hit₁ hs₁=>?_)
  refine Zd (ZU (Jkp hne n (i+1) _ _ hit₁ (ht.extBut hs₁.extBut hne) (by omega) λ h₂ hit₂ hs₂=>Zw ?_))
  have hd:items.toList.drop i=items[i]::items.toList.drop (i+1):=by simp[Za2,hlt]
  have:=hQ h₂ (by rw[show i+(n+1)=i+1+n by omega];exact hit₂) (hs₁.trans hs₂)
  rw[hd,List.take_succ_cons] at this
  exact this
theorem Jf6 {Q:List Ze->Zm->Prop}(hh:A.handled=Zc)(ht:s.heap.IsList t items) 
  (hQ:∀h',Heap.ExtBut s.heap.objs.size s.heap h'->Q items.toList { s with heap:=h' }):Zy (Z9 prog w) A (unpackItems (.ref t) items.size Zc) Q E s:=by
 have hlt:t≠s.heap.objs.size:=by obtain⟨o,ho,_⟩:=ht;exact Z8 (Z0 ho)
 unfold unpackItems
 refine Zd ?_
 ·unfold notIterableAtAll
  refine Zd (wpAny_specialOf ht.typeIs slot_list_iter.lookup ?_)
  refine Zw ?_
  simp only[ZW,if_false]
  refine Zd (ZU (ZaN ht ?_))
  refine Zd (ZU (Jkp hlt items.size 0 _ _ ⟨_,Zz _ rfl,rfl,rfl⟩ (ht.push _) (by omega) λ h₁ hit₁ hs₁=>?_))
  have hall:List.take items.size (List.drop 0 items.toList)=items.toList:=by
   rw[List.drop_zero];exact Zbb (by simp)
  rw[hall]
  rw[if_neg (by simp)]
  have ht₁:h₁.IsList t items:=(ht.push _).extBut hs₁.extBut hlt
  refine Zd (ZU (ZdU hh hit₁ ht₁ (by simp) λ h₂ he₂=>?_))
  simp only[Option.isSome_none,ZW,if_false]
  refine Zw (hQ h₂ λ b o hb e=>he₂ b o hb (hs₁.extBut b o hb (Zg _ e)))
theorem Jff {env:Env}{elts:List Expr}{x1}{pos:Pos}{t:Zp}{items:Array Ze}{Q:Unit->Zm->Prop}(hh:A.handled=Zc)(ht:s.heap.IsList t items)
  (hn:(ZaJ elts env).length=items.size)(hstar:(ZaJ elts env).findIdx? (·.1)=Zc)
  (h:∀h',Heap.ExtBut s.heap.objs.size s.heap h'->Zy (Z9 prog w) A (Zeq ((ZaJ elts env).map (·.2)) items.toList) Q E { s with heap:=h' }) :
  Zy (Z9 prog w) A (ZdN (.Tuple elts x1 pos) env (.ref t)) Q E s:=by
 rw[assign_Tuple]
 refine Zd (Zbo ?_)
 unfold unpack
 rw[hn,hstar]
 exact Zd (ZU (Jf6 hh ht h))
end
abbrev S1:=ISt->IH->SRes
structure Noted (L:Zp)(fs:List Zp)(e:Zp)(h h3:Zax):Prop where
 ex:∃oe vs T ts,h.get? e=Za oe/\oe.data=.fields vs/\1<vs.size/\h3.get? e=Za (ZaP (·.setIfInBounds 1 (.ref T)) oe)/\T≠e/\h.get? T=Zc/\h3.get? T=Za { cls:=.type "traceback",dict:=Zc,data:=.fields ts }/\ts[3]?=Za (ZbS L)
 slot:∀b o,h.get? b=Za o->b≠e->∃sl,h3.get? b=Za { o with slots:=sl }
 keep:∀b o,h.get? b=Za o->b≠e->b∉fs->h3.get? b=Za o
def Fly (L:Zp)(fs:List Zp)(e:Zp)(s s1:Zm):Prop:=s1=s∨∃h',s1={ s with heap:=h' }/\Noted L fs e s.heap h'
def JF (ce:CeT)(X:Cx)(pj:PnT)(ι:List Zp)(H:Hp)(r:SRes)(Q:Flow->Zm->Prop)(E:QvT):Prop :=
 match r with
 | .next σi' h'=>∀s' σ' H' ι',Now ce X pj ι' σi' h' σ' H' s'->Nxt ι H ι' H'->Q .next s'
 | .brk σi' h'=>∀s' σ' H' ι',Now ce X pj ι' σi' h' σ' H' s'->Nxt ι H ι' H'->Q .brk s'
 | .cont σi' h'=>∀s' σ' H' ι',Now ce X pj ι' σi' h' σ' H' s'->Nxt ι H ι' H'->Q .cont s'
 | .ret v h'=>∀u s' σi' σ' H' ι',Now ce X pj ι' σi' h' σ' H' s'->Nxt ι H ι' H'->RU X.K ι' H' v u->Q (.ret u) s'
 | .exc n σi' h'=>∀pl a s' σ' H' ι',Now ce X (pj++pl) ι' σi' h' σ' H' s'->Nxt ι H ι' H'->ι'[n]?=Za a->∀s1,Fly X.env.locals (frs X.stack) a s' s1->E (.ref a) s1
 | .stuck=>False
theorem JF.mono (k:JF ce X pj ι H r Q E)(n:Nxt ι H ι' H'):JF ce X pj ι' H' r Q E:=by
 cases r with
 | next σ h=>exact λ s' σ' H2 ι2 N n2=>k s' σ' H2 ι2 N (n.trans n2)
 | brk σ h=>exact λ s' σ' H2 ι2 N n2=>k s' σ' H2 ι2 N (n.trans n2)
 | cont σ h=>exact λ s' σ' H2 ι2 N n2=>k s' σ' H2 ι2 N (n.trans n2)
 | ret v h=>exact λ u s' σi' σ' H2 ι2 N n2=>k u s' σi' σ' H2 ι2 N (n.trans n2)
 | exc m σ h=>exact λ pl a s' σ' H2 ι2 N n2=>k pl a s' σ' H2 ι2 N (n.trans n2)
 | stuck=>exact k
def PSi (ce:CeT)(X:Cx)(t:Sem Flow)(m:S1):Prop :=
 ∀(pj:PnT)(s:Zm)(σ:L2.St)(H:Hp)(ι:List Zp)(σi:ISt)(h:IH)(Q:Flow->Zm->Prop)(E:QvT),Now ce X pj ι σi h σ H s->JF ce X pj ι H (m σi h) Q E->Zy (Z9 X.prog X.w) X.A t Q E s
abbrev PS1 (ce:CeT)(X:Cx)(st:Zdh)(m:S1):Prop:=PSi ce X (exec st X.env) m
abbrev PS2 (ce:CeT)(X:Cx)(sts:List Zdh)(m:S1):Prop:=PSi ce X (execs sts X.env) m
noncomputable def Js:S1:=λ σ h=>.next σ h
def Jg (a b:S1):S1:=λ σ h=>match a σ h with
 | .next σ' h'=>b σ' h'
 | r=>r
noncomputable def Jx3:S1:=λ σ h=>.next σ h
def Jvs:S1:=λ σ h=>.brk σ h
def J01:S1:=λ σ h=>.cont σ h
noncomputable def rS {α:Type}(σ:ISt)(r:Res α)(k:α->IH->SRes):SRes:=match r with
 | .ok a h=>k a h
 | .exc n h=>.exc n σ h
 | .stuck=>.stuck
def JL (e:E1):S1:=λ σ h=>rS σ (e σ h) λ _ h'=>.next σ h'
def Jm (e:E1):S1:=λ σ h=>rS σ (e σ h) λ v h'=>.ret v h'
noncomputable def Jx4:S1:=λ _ h=>.ret .non h
def sIf (t:T1)(a b:S1):S1:=λ σ h=>rS σ (t σ h) λ c h'=>if c then a σ h' else b σ h'
def Ji (i:Nat)(e:E1):S1:=λ σ h=>rS σ (e σ h) λ v h'=>.next (σ.set i (Za v)) h'
section
variable {ce:CeT}{X:Cx}{st:Zdh}{rest:List Zdh}{m m1 m2:S1}{e:Expr}{me:E1}{pos:Pos}
theorem krun {α β:Type}{R:REL α β}{t:Sem β}{mm:ISt->IH->Res α}(p:PX ce X R t mm){pj:PnT}{s:Zm}{σ:L2.St}{H:Hp}{ι:List Zp}{σi:ISt}{h:IH}(N:Now ce X pj ι σi h σ H s){g:α->IH->SRes}{Q:Flow->Zm->Prop}{E:QvT}{Q1:β->Zm->Prop}
  (K:JF ce X pj ι H (rS σi (mm σi h) g) Q E)
  (step:∀x h1 u s1 H1 ι1,Now ce X pj ι1 σi h1 σ H1 s1->Nxt ι H ι1 H1->R X.K ι1 H1 x u->JF ce X pj ι1 H1 (g x h1) Q E->Q1 u s1):Zy (Z9 X.prog X.w) X.A t Q1 E s:=by
 refine p pj s σ H ι σi h Q1 E N ?_
 cases e:mm σi h with
 | ok v h' =>
  rw[e] at K
  exact λ u s' H' ι' N' n' r=>step v h' u s' H' ι' N' n' r (JF.mono (r:=g v h') K n')
 | exc n h' =>
  rw[e] at K
  exact λ pl a s' H' ι' N' n' q=>K pl a s' σ H' ι' N' n' q s' (.inl rfl)
 | stuck =>
  rw[e] at K
  exact K
theorem J0z:PS2 ce X [] Js:=λ _ s σ H ι _ _ _ _ N K=>ZcX (K s σ H ι N .refl)
theorem Jx1 (h1:PS1 ce X st m1)(h2:PS2 ce X rest m2):PS2 ce X (st::rest) (Jg m1 m2):=by
 intro pj s σ H ι σi h Q E N K
 refine wpAny_execs_cons (h1 pj s σ H ι σi h _ E N ?_)
 unfold Jg at K
 cases e:m1 σi h with
 | next σ' h' =>
  rw[e] at K
  exact λ s' σ2 H' ι' N' n'=>h2 pj s' σ2 H' ι' σ' h' Q E N' (JF.mono (r:=m2 σ' h') K n')
 | brk σ' h'=>rw[e] at K;exact K
 | cont σ' h'=>rw[e] at K;exact K
 | ret v h'=>rw[e] at K;exact K
 | exc n σ' h'=>rw[e] at K;exact K
 | stuck=>rw[e] at K;exact K
theorem J00 (h1:PS1 ce X st m1):PS2 ce X [st] m1:=by
 intro pj s σ H ι σi h Q E N K
 refine wpAny_execs_cons (h1 pj s σ H ι σi h _ E N ?_)
 cases e:m1 σi h with
 | next σ' h' =>
  rw[e] at K
  exact λ s' σ2 H' ι' N' n'=>ZcX (K s' σ2 H' ι' N' n')
 | brk σ' h'=>rw[e] at K;exact K
 | cont σ' h'=>rw[e] at K;exact K
 | ret v h'=>rw[e] at K;exact K
 | exc n σ' h'=>rw[e] at K;exact K
 | stuck=>rw[e] at K;exact K
theorem J06:PS1 ce X (.Pass pos) Jx3:=λ _ s σ H ι _ _ _ _ N K=>wpAny_Pass (K s σ H ι N .refl)
theorem Jx5:PS1 ce X (.Break pos) Jvs:=λ _ s σ H ι _ _ _ _ N K=>wpAny_Break (K s σ H ι N .refl)
theorem J04:PS1 ce X (.Continue pos) J01:=λ _ s σ H ι _ _ _ _ N K=>wpAny_Continue (K s σ H ι N .refl)
theorem J05 (he:PEi ce X e me)(hs:Zdf e Zc pos.line X.env=pure Zk:=by rfl):PS1 ce X (.Expr e pos) (JL me):=λ pj s σ H ι σi h Q E N K =>
 wpAny_Expr_any (krun he N K λ x h1 u s1 H1 ι1 N1 n1 r1 K1=>K1 s1 σ H1 ι1 N1 .refl) N.inv.quiet hs
theorem J3d (he:PEi ce X e me):PS1 ce X (.Return (Za e) pos) (Jm me):=λ pj s σ H ι σi h Q E N K =>
 wpAny_Return_some (krun he N K λ x h1 u s1 H1 ι1 N1 n1 r1 K1=>K1 u s1 σi σ H1 ι1 N1 .refl r1)
theorem J07:PS1 ce X (.Return Zc pos) Jx4:=λ pj s σ H ι σi h Q E N K=>wpAny_Return_none (K .none s σi σ H ι N .refl ⟨.non,rfl,rfl⟩)
theorem s_if {c:Expr}{a b:List Zdh}{mt:T1}(hc:PTi ce X c mt)(ha:PS2 ce X a m1)(hb:PS2 ce X b m2):PS1 ce X (.If c a b pos) (sIf mt m1 m2):=λ pj s σ H ι σi h Q E N K =>
 wpAny_If (krun hc N K λ x h1 u s1 H1 ι1 N1 n1 r1 K1=>by
  have r':u=x:=r1
  subst r'
  cases u with
  | true=>exact ha pj s1 σ H1 ι1 σi h1 Q E N1 K1
  | false=>exact hb pj s1 σ H1 ι1 σi h1 Q E N1 K1)
theorem J08 {i:Nat}{x:Str}{pos':Pos}(hN:X.N.Nodup)(he:PEi ce X e me)(hi:X.N[i]?=Za x:=by rfl)(hx:Loc X.env.scope x:=by assumption)(hs:Zdf e (Za (.Name x pos')) pos.line X.env=pure Zk:=by rfl)
  (hf:X.fn x=Zh∨X.env.scope.names.lookup x=Za .local:=by assumption):PS1 ce X (.Assign [.Name x pos'] e pos) (Ji i me):=λ pj s σ H ι σi h Q E N K =>
 wpAny_Assign_Name (krun he N K λ v h1 u s1 H1 ι1 N1 n1 r1 K1=>by
  obtain⟨w,rw',q⟩:=r1
  exact Jgf N1.inv hN hi hx rw' (λ s2 I2=>K1 s2 _ H1 ι1 ⟨I2,N1.rel,N1.st.set i q⟩ .refl) hf) hs
abbrev G1:=IV->ISt->IH->SRes
def PGi (ce:CeT)(X:Cx)(tg:Expr)(g:G1):Prop :=
 ∀(pj:PnT)(s:Zm)(σ:L2.St)(H:Hp)(ι:List Zp)(σi:ISt)(h:IH)(v:IV)(u:Ze)(Q:Flow->Zm->Prop)(E:QvT),Now ce X pj ι σi h σ H s->RU X.K ι H v u->JF ce X pj ι H (g v σi h) Q E ->
  Zy (Z9 X.prog X.w) X.A (ZdN tg X.env u) (λ _ s'=>Q .next s') E s
noncomputable def gNm (i:Nat):G1:=λ v σ h=>.next (σ.set i (Za v)) h
theorem g_nm (hN:X.N.Nodup)(hi:X.N[i]?=Za x:=by rfl)(hx:Loc X.env.scope x:=by assumption)(hf:X.fn x=Zh∨X.env.scope.names.lookup x=Za .local:=by assumption):PGi ce X (.Name x pos) (gNm i):=by
 intro pj s σ H ι σi h v u Q E N r K
 obtain⟨w,rw',q⟩:=r
 exact wpAny_assign_Name (Jgf N.inv hN hi hx rw' (λ s2 I2=>K s2 _ H ι ⟨I2,N.rel,N.st.set i q⟩ .refl) hf)
def PGsi (ce:CeT)(X:Cx)(ts:List Expr)(g:List IV->ISt->IH->SRes):Prop :=
 ∀(pj:PnT)(s:Zm)(σ:L2.St)(H:Hp)(ι:List Zp)(σi:ISt)(h:IH)(vs:List IV)(us:List Ze)(Q:Flow->Zm->Prop)(E:QvT),Now ce X pj ι σi h σ H s->RUs X.K ι H vs us->JF ce X pj ι H (g vs σi h) Q E ->
  Zy (Z9 X.prog X.w) X.A (Zeq ((ZaJ ts X.env).map (·.2)) us) (λ _ s'=>Q .next s') E s
noncomputable def gN:List IV->ISt->IH->SRes
 | [],σ,h=>.next σ h
 | _::_,_,_=>.stuck
def gC (g:G1)(r:List IV->ISt->IH->SRes):List IV->ISt->IH->SRes
 | v::vs,σ,h=>match g v σ h with
  | .next σ' h'=>r vs σ' h'
  | .exc n σ' h'=>.exc n σ' h'
  | _=>.stuck
 | [],_,_=>.stuck
theorem Jzf:PGsi ce X [] gN:=by
 intro pj s σ H ι σi h vs us Q E N r K
 cases vs with
 | nil =>
  obtain⟨xs,rv,q⟩:=r
  have e1:xs=[]:=q
  subst e1
  cases rv
  exact assignInOrder_nil (K s σ H ι N .refl)
 | cons v vs=>exact Zf K
theorem Jw1 {tg:Expr}{ts:List Expr}{g:G1}{r:List IV->ISt->IH->SRes}(h1:PGi ce X tg g)(h2:PGsi ce X ts r)
  (hs:(ZaJ (tg::ts) X.env).map (·.2)=ZdN tg X.env::(ZaJ ts X.env).map (·.2):=by rfl):PGsi ce X (tg::ts) (gC g r):=by
 intro pj s σ H ι σi h vs us Q E N ru K
 cases vs with
 | nil=>exact Zf K
 | cons v vs =>
  obtain⟨xs,rv,x,xr,e1,q,qs⟩:=ru
  subst e1
  cases rv with
  | cons r1 r2 =>
   rw[hs]
   refine assignInOrder_cons (h1 pj s σ H ι σi h v _ (λ f s'=>Zy (Z9 X.prog X.w) X.A (Zeq ((ZaJ ts X.env).map (·.2)) _) (λ _ s'=>Q .next s') E s') E N ⟨x,r1,q⟩ ?_)
   have K':JF ce X pj ι H (match g v σi h with|.next σ' h'=>r vs σ' h'|.exc n σ' h'=>.exc n σ' h'|_=>.stuck) Q E:=K
   cases e:g v σi h with
   | next σ' h' =>
    rw[e] at K'
    exact λ s' σ2 H' ι' N' n'=>h2 pj s' σ2 H' ι' σ' h' vs _ Q E N' ⟨xr,r2,RVs.mono n' _ _ qs⟩ (JF.mono (r:=r vs σ' h') K' n')
   | exc n σ' h'=>rw[e] at K';exact K'
   | _=>rw[e] at K';exact(show False from K').elim
def gTp (n:Nat)(g:List IV->ISt->IH->SRes):G1:=λ v σ h=>match v with
 | .tup xs=>if xs.length=n then g xs σ h else .stuck
 | .ref i=>(match h[i]? with
  | some (.lst xs)=>if xs.length=n then g xs σ h else .stuck
  | _=>.stuck)
 | _=>.stuck
theorem J15 {es:List Expr}{k n:Nat}{g:List IV->ISt->IH->SRes}(hc:X.calm=Zh)(hg:PGsi ce X es g)(hn:(ZaJ es X.env).length=n:=by rfl)(hst:(ZaJ es X.env).findIdx? (·.1)=Zc:=by rfl):PGi ce X (.Tuple es k pos) (gTp n g):=by
 intro pj s σ H ι σi h v u Q E N r K
 obtain⟨w,rw',q⟩:=r
 cases v with
 | tup xs =>
  obtain⟨a,vs,e1,sa,ra⟩:=q
  subst e1
  cases rw'
  unfold gTp at K
  dsimp only at K
  split at K
  ·rename_i hl
   obtain⟨its,rv,ht,hz⟩:=N.inv.tuple sa
   have l1:=ra.length
   have l2:=rv.length
   refine assign_Tuple_tuple (N.inv.ok.hd hc) ht (by simp only[Zu];omega) hst λ h' hx=>?_
   have I1:Inv X pj σ H { s with heap:=h' }:=N.inv.kept (t':=s.toks) λ b o e=>hx b o (Z8 (Z0 e)) e
   exact hg pj _ σ H ι σi h xs _ Q E ⟨I1,N.rel,N.st⟩ ⟨vs,by simpa using rv,ra⟩ K
  ·exact Zf K
 | ref i =>
  obtain⟨a,e1,ha⟩:=q
  subst e1
  cases rw'
  unfold gTp at K
  dsimp only at K
  cases hi:h[i]? with
  | none=>rw[hi] at K;exact Zf K
  | some ob =>
   rw[hi] at K
   cases ob with
   | lst xs =>
    dsimp only at K
    split at K
    ·rename_i hl
     obtain⟨vs,g1,ra⟩:=N.at hi ha
     obtain⟨its,rv,ht,hz⟩:=N.inv.list (SqL.of g1)
     have l1:=ra.length
     have l2:=rv.length
     refine Jff (N.inv.ok.hd hc) ht.isList (by simp only[Zu];omega) hst λ h' hx=>?_
     have I1:Inv X pj σ H { s with heap:=h' }:=N.inv.kept (t':=s.toks) λ b o e=>hx b o (Z8 (Z0 e)) e
     exact hg pj _ σ H ι σi h xs _ Q E ⟨I1,N.rel,N.st⟩ ⟨vs,by simpa using rv,ra⟩ K
    ·exact Zf K
   | _=>exact Zf K
 | _=>exact Zf K
def sAsg (e:E1)(g:G1):S1:=λ σ h=>rS σ (e σ h) λ v h'=>g v σ h'
theorem J29 {tg:Expr}{g:G1}(he:PEi ce X e me)(hg:PGi ce X tg g)(hs:swapsWithSole [tg] e pos.line X.env=pure Zk:=by rfl)(hw:swappedStores [tg] e X.env=pure Zc:=by rfl)
  (h1:(ZaJ [tg] X.env).map (·.2)=[ZdN tg X.env]:=by rfl):PS1 ce X (.Assign [tg] e pos) (sAsg me g):=λ pj s σ H ι σi h Q E N K =>
 wpAny_Assign_stores (krun he N K λ v h2 u s1 H1 ι1 N1 n1 r1 K1=>by
  rw[h1]
  exact hg pj s1 σ H1 ι1 σi h2 v u Q E N1 r1 K1) hs hw
end
theorem ExF.ok {h:Zax}(e:h.get? a=Za oe)(c:oe.cls=.ref C)(d:oe.data=.fields vs)(v:vs[1]?=Za tv)(v2:vs[2]?=Za .none)(v3:oe.dict=dd):JG P w H h a (ExF a C tv dd) :=
 ⟨⟨oe,vs,e,c,d,v,v2,v3⟩,⟨oe,e⟩,λ _ _ ⟨o,us,e1,r⟩ k=>⟨o,us,k _ e1,r⟩⟩
theorem ExF.get (x:HOk P w H h)(e:H a=Za (ExF a C tv d)):∃oe vs,h.get? a=Za oe/\oe.cls=.ref C/\oe.data=.fields vs/\vs[1]?=Za tv/\vs[2]?=Za .none/\oe.dict=d :=
 (x a _ e).1
theorem Jp8 (o:Obj)(f:Array Ze->Array Ze):(o.mapFields f).dict=o.dict:=by
 unfold ZaP
 split<;>rfl
theorem J0h:∀{o:HO},JG P w H h a o->∃u,h.get? a=Za u:=λ {o} q=>by
 cases o with
 | lst _=>obtain⟨_,_,_,_,e⟩:=q;exact⟨_,e⟩
 | tup _=>obtain⟨_,_,_,⟨_,e,_⟩⟩:=q;exact⟨_,e⟩
 | dK _=>obtain⟨_,_,_,_,o,_,_,e,_⟩:=q;exact⟨o,e⟩
 | dT _=>obtain⟨_,_,_,_,o,_,_,e,_⟩:=q;exact⟨o,e⟩
 | set _ _=>obtain⟨o,_,_,_,e,_⟩:=q;exact⟨o,e⟩
 | ins _ _ _=>obtain⟨_,_,_,e,_⟩:=q;exact⟨_,e⟩
 | own _=>obtain⟨_,e⟩:=q;exact⟨_,e⟩
 | xd _=>obtain⟨_,⟨_,_,_,e,_⟩,_⟩:=q;exact⟨_,e⟩
 | rng _ _=>obtain⟨_,_,_,e⟩:=q;exact⟨_,e⟩
 | frz _ _=>obtain⟨e,_⟩:=q;exact⟨_,e⟩
 | tbl _=>exact⟨_,(show h.get? a=Za _ from q)⟩
 | met _ _=>exact⟨_,(show h.get? a=Za _ from q)⟩
 | ext _=>obtain⟨_,⟨_,e⟩,_⟩:=q;exact⟨_,e⟩
theorem Jry {h:Zax}{T:Zp}{oT:Obj}{ts:Array Ze}{v:Ze}(e:h.get? T=Za oT)(d:oT.data=.fields ts)(q:ts[3]?=Za v):(h.update T (ZaP (·.setIfInBounds 3 v))).get? T=Za oT:=by
 have es:ts.setIfInBounds 3 v=ts:=by
  refine Array.ext (by simp) λ i h1 h2=>?_
  rw[Array.getElem_setIfInBounds]
  split
  ·rename_i z
   subst z
   rw[Zco h2] at q
   exact(Zao q).symm
  ·rfl
 have eo:ZaP (·.setIfInBounds 3 v) oT=oT:=by
  obtain⟨c,dd,dt,sl⟩:=oT
  have d:dt=.fields ts:=d
  subst d
  simp only[ZaP,es]
 rw[Za9 _ e (by rw[eo];exact ZcG d),eo]
section
variable {X:Cx}{pj:PnT}{σ:L2.St}{H:Hp}{s:Zm}{M:Model}{E:QvT}{Q:Unit->Zm->Prop}{a C:Zp}{tv:Ze}{d:Option Zp}{h3:Zax}{s1:Zm}
structure Past (X:Cx)(H:Hp)(h:Zax)(a C:Zp)(d:Option Zp)(T:Zp)(oT:Obj)(h':Zax):Prop where
 new:H T=Zc
 ne:T≠a
 fld:∃ts,oT.data=.fields ts/\ts[3]?=Za .none
 un:Un (frs X.stack) [] H (upd (upd H T (.frz oT (.own 0))) a (ExF a C (.ref T) d)) h h'
 hok:HOk X.prog X.w (upd (upd H T (.frz oT (.own 0))) a (ExF a C (.ref T) d)) h'
theorem Jnb (I:Inv X pj σ H s)(hs:X.stack=X.env::X.outer)(hf:X.env.frame=Za X.env.locals)(ha:H a=Za (ExF a C tv d))(ht:TvOk H tv) 
  (k:∀h3,Noted X.env.locals (frs X.stack) a s.heap h3->Q () { s with heap:=h3 }):Zy M X.A (Zd8 (.ref a) X.env) Q E s:=by
 obtain⟨oe,vs,e1,e2,e3,e4,e5,e6⟩:=ExF.get I.hok ha
 have hfa:a∉frs X.stack:=λ z=>by rw[I.stkFree a z] at ha;cases ha
 have fr:=I.ok.frames
 have ff:s.heap.FunFrames X.base X.stack:=I.stack
 have len1:1<vs.size:=(Zbv.mp e4).1
 have go:∀(h:Zax){head:Ze}{hn:Bool},(∀b,h.get? b=s.heap.get? b)->Zy M X.A (do let f<-frameOf X.env;let pl<-entryPlaceOf X.env.locals hn;let b<-EntryCells.newEntry head f .none (ZbS X.env.locals) .none pl;setField (.ref a) 1 b) Q E { s with heap:=h }:=by
  intro h head hn hh
  have ffh:h.FunFrames X.base X.stack:=ff.of_keeps λ b o q _=>⟨o,(hh b).trans q,rfl⟩
  rw[hs] at fr ffh
  refine Zd (wpAny_frameOf_fun (s:={ s with heap:=h }) fr ffh hf λ h1 so=>?_)
  have he1:h1.get? a=Za oe:=(so.2.1 a (by rw[hs] at hfa;exact hfa)).trans ((hh a).trans e1)
  refine Zd (wpAny_entryPlaceOf λ pl hpl=>?_)
  unfold EntryCells.newEntry newFields
  refine Zd (wpAny_newObj_type ?_ (hpl.sizeOk5 _ _ _ _ _))
  have t3:([head,Zde X.env.locals,Zaa,ZbS X.env.locals,Zaa]++(if pl.isEmpty then ZR 6 Zaa else pl)).toArray[3]?=Za (ZbS X.env.locals):=by simp
  generalize ([head,Zde X.env.locals,Zaa,ZbS X.env.locals,Zaa]++(if pl.isEmpty then ZR 6 Zaa else pl)).toArray=ts at t3 ⊢
  have lt2:∀b o,h1.get? b=Za o->b≠h1.objs.size:=λ b o q=>Z8 (Z0 q)
  have nT:h1.objs.size≠a:=ZI (lt2 a _ he1)
  have up2:∀b o,h1.get? b=Za o->(h1.push { cls:=.type "traceback",dict:=Zc,data:=.fields ts }).get? b=Za o:=λ b o q=>Zg _ q
  have gT2:(h1.push { cls:=.type "traceback",dict:=Zc,data:=.fields ts }).get? h1.objs.size=Za { cls:=.type "traceback",dict:=Zc,data:=.fields ts }:=Zz h1 rfl
  refine Zdl (up2 _ _ he1) e3 len1 (k _ ⟨⟨oe,vs,h1.objs.size,ts,e1,e3,len1,Za9 _ (up2 _ _ he1) (ZcG (ZaT e3 _)),nT,?_,(Zs _ _ (ZI nT)).trans gT2,t3⟩,λ b o q n=>?_,λ b o q n m=>?_⟩)
  ·cases q:s.heap.get? h1.objs.size with
   | none=>rfl
   | some o =>
    obtain⟨sl,z⟩:=so.2.2 _ _ ((hh _).trans q)
    exact absurd rfl (lt2 _ _ z)
  ·obtain⟨sl,z⟩:=so.2.2 _ _ ((hh b).trans q)
   exact⟨sl,(Zs _ _ (ZI n)).trans (up2 _ _ z)⟩
  ·exact(Zs _ _ (ZI n)).trans (up2 _ _ ((so.2.1 b (by rw[hs] at m;exact m)).trans ((hh b).trans q)))
 unfold Zd8
 rw[hf]
 refine Zd (Zc2 e1 e3 e4 ?_)
 rcases ht with rfl|⟨T,oT,ts,rfl,q1,q2,q3⟩
 ·rw[if_neg (by decide)]
  exact go s.heap λ _=>rfl
 ·have gT:s.heap.get? T=Za oT:=(I.hok T _ q1).1
  rw[if_pos (by simp)]
  refine Zd (Zc2 gT q2 q3 ?_)
  rw[if_neg (by simp[ZbS])]
  refine Zd (Zdl gT q2 (Zbv.mp q3).1 ?_)
  refine go _ λ b=>?_
  by_cases z:b=T
  ·subst z
   exact(Jry gT q2 q3).trans gT.symm
  ·exact Zs _ _ (ZI z)
theorem Jhi {env:Env}(hf:env.frame=Za env.locals)(n:Noted env.locals fs a h h3)(q:Q () { s with heap:=h3 }):Zy M A (Zd8 (.ref a) env) Q E { s with heap:=h3 }:=by
 obtain⟨⟨oe,vs,T,ts,g1,g2,g3,g4,g5,g6,g7,g8⟩,_,_⟩:=n
 unfold Zd8
 rw[hf]
 refine Zd (Zc2 (x:=.ref T) g4 (ZaT g2 _) (by simp[g3]) ?_)
 rw[if_pos (by simp)]
 refine Zd (Zc2 g7 rfl g8 ?_)
 rw[if_pos (by simp)]
 exact Zw q
theorem Jo1 {env:Env}(hf:env.frame=Za env.locals)(n:Noted env.locals fs a h h3)(k:∀h4,Noted env.locals fs a h h4->E (.ref a) { s with heap:=h4 }):cameBackBy M A env E (.ref a) { s with heap:=h3 }:=by
 obtain⟨⟨oe,vs,T,ts,g1,g2,g3,g4,g5,g6,g7,g8⟩,sl,kp⟩:=n
 unfold cameBackBy
 refine Zd (Zc2 (x:=.ref T) g4 (ZaT g2 _) (by simp[g3]) ?_)
 rw[if_neg (by simp)]
 rw[hf]
 unfold Ze9
 refine Zd (Zc2 (x:=.ref T) g4 (ZaT g2 _) (by simp[g3]) ?_)
 rw[if_pos (by simp)]
 refine Zdl g7 rfl (Zbv.mp g8).1 ?_
 have up:∀b o,h3.get? b=Za o->(h3.update T (ZaP (·.setIfInBounds 3 (ZbS env.locals)))).get? b=Za o:=λ b o q=>by
  by_cases z:b=T
  ·subst z
   rw[g7] at q
   cases q
   exact Jry g7 rfl g8
  ·exact(Zs _ _ (ZI z)).trans q
 exact k _ ⟨⟨oe,vs,T,ts,g1,g2,g3,up _ _ g4,g5,g6,up _ _ g7,g8⟩,λ b o q n=>let ⟨s',z⟩:=sl b o q n;⟨s',up _ _ z⟩,λ b o q n m=>up _ _ (kp b o q n m)⟩
theorem Jip (I:Inv X pj σ H s)(ha:H a=Za (ExF a C tv d))(n:Noted L (frs X.stack) a s.heap h3)(k:∀T oT h',Past X H s.heap a C d T oT h'->Q () { s with heap:=h' }):Zy M X.A (Ze9 (.ref a) Zc) Q E { s with heap:=h3 }:=by
 obtain⟨⟨oe,vs,T,ts,g1,g2,g3,g4,g5,nT,g7,g8⟩,sl,kp⟩:=n
 obtain⟨oe',vs',x1,x2,x3,x4,x5,x6⟩:=ExF.get I.hok ha
 rw[g1] at x1
 cases x1
 rw[g2] at x3
 cases x3
 have hok:=I.hok
 have hfr:∀b∈frs X.stack,H b=Zc:=I.stkFree
 have hT:H T=Zc:=by
  cases q:H T with
  | none=>rfl
  | some u =>
   obtain⟨o,z⟩:=J0h (hok T u q)
   rw[nT] at z
   cases z
 have tz:3<ts.size:=(Zbv.mp g8).1
 unfold Ze9
 refine Zd (Zc2 (x:=.ref T) g4 (ZaT g2 _) (by simp[g3]) ?_)
 rw[if_pos (by simp)]
 refine Zdl g7 rfl tz ?_
 have e1:=(Zs h3 (ZaP (·.setIfInBounds 3 ((Zc:Option Zp).elim Zaa λ f=>ZbS f))) g5).trans g4
 have e7:=Za9 (ZaP (·.setIfInBounds 3 ((Zc:Option Zp).elim Zaa λ f=>ZbS f))) g7 (ZcG (ZaT rfl _))
 have d7:=ZaT (o:={ cls:=.type "traceback",dict:=Zc,data:=.fields ts }) rfl (·.setIfInBounds 3 ((Zc:Option Zp).elim Zaa λ f=>ZbS f))
 have lt:∀b o,s.heap.get? b=Za o->T≠b:=λ b o q z=>by rw[z,q] at nT;cases nT
 have keep:∀b o,s.heap.get? b=Za o->b≠a->b∉frs X.stack->(h3.update T (ZaP (·.setIfInBounds 3 ((Zc:Option Zp).elim Zaa λ f=>ZbS f)))).get? b=Za o:=λ b o q n1 n2=>(Zs _ _ (lt b o q)).trans (kp b o q n1 n2)
 have slot:∀b o,s.heap.get? b=Za o->b≠a->∃sl,(h3.update T (ZaP (·.setIfInBounds 3 ((Zc:Option Zp).elim Zaa λ f=>ZbS f)))).get? b=Za { o with slots:=sl }:=λ b o q n1=>let ⟨s',z⟩:=sl b o q n1;⟨s',(Zs _ _ (lt b o q)).trans z⟩
 generalize h3.update T (ZaP (·.setIfInBounds 3 ((Zc:Option Zp).elim Zaa λ f=>ZbS f)))=h' at e1 e7 keep slot
 generalize ZaP (·.setIfInBounds 3 ((Zc:Option Zp).elim Zaa λ f=>ZbS f)) { cls:=.type "traceback",dict:=Zc,data:=.fields ts }=oT at e7 d7
 have na:∀{b:Zp}{u:HO},H b=Za u->(∀φ,u≠.ext φ)->b≠a:=λ {b u} q n z=>by
  subst z
  rw[ha] at q
  cases q
  exact n _ rfl
 have nTb:∀{b:Zp}{u:HO},H b=Za u->b≠T:=λ {b u} q z=>by
  subst z
  rw[hT] at q
  cases q
 have up:∀{b:Zp}{u:HO},H b=Za u->(∀φ,u≠.ext φ)->upd (upd H T (.frz oT (.own 0))) a (ExF a C (.ref T) d) b=Za u:=λ {b u} q n=>by
  rw[Jq (na q n),Jq (nTb q)]
  exact q
 have fa:a∉frs X.stack:=λ z=>by rw[hfr a z] at ha;cases ha
 refine k T oT h' ⟨hT,g5,⟨_,d7,by simp[tz]⟩,⟨λ b o q n hb _=>keep b o q (λ z=>by subst z;rw[ha] at n;cases n) hb,λ b o q _ hb _=>slot b o q (λ z=>fa (z▸hb)),λ b o q n _=>?_,λ b o q _=>?_,λ b xs q=>up q nofun,λ b o u q=>up q nofun,λ b ps q=>⟨#[],by rw[up q nofun];simp⟩⟩,λ b u q=>?_⟩
 ·rw[Jq (λ z=>by subst z;rw[ha] at n;cases n),Jq (λ z=>by subst z;rw[nT] at q;cases q)]
  exact n
 ·by_cases z:b=a
  ·subst z
   exact⟨_,e1⟩
  ·obtain⟨sl,w⟩:=slot b o q z
   exact⟨_,w⟩
 ·by_cases z:b=a
  ·subst z
   rw[J7] at q
   cases q
   exact ExF.ok e1 ((Obj.cls_mapFields _ _).trans x2) (ZaT g2 _) (by simp[g3]) (by rw[Array.getElem?_setIfInBounds_ne (by decide)];exact x5) ((Jp8 _ _).trans x6)
  ·rw[Jq z] at q
   by_cases y:b=T
   ·subst y
    rw[J7] at q
    cases q
    exact⟨e7,⟨oT,e7⟩⟩
   ·rw[Jq y] at q
    refine(hok b u q).stay (λ c v hc p=>?_) (λ c p=>up p nofun) λ c xs p=>up p nofun
    refine keep c v p ?_ ?_
    ·rcases hc with rfl|hc
     ·exact z
     ·exact na hc nofun
    ·intro m
     rcases hc with rfl|hc
     ·rw[hfr _ m] at q;cases q
     ·rw[hfr _ m] at hc;cases hc
theorem Jtv (I:Inv X pj σ H s)(fl:Fly X.env.locals (frs X.stack) a s s1)(hs:X.stack=X.env::X.outer)(hf:X.env.frame=Za X.env.locals)(ha:H a=Za (ExF a C tv d))(ht:TvOk H tv) 
  (k:∀T oT h',Past X H s.heap a C d T oT h'->Q () { s with heap:=h' }):Zy M X.A (Zd8 (.ref a) X.env) (λ _ s'=>Zy M X.A (Ze9 (.ref a) Zc) Q E s') E s1:=by
 rcases fl with rfl|⟨h',rfl,n⟩
 ·exact Jnb I hs hf ha ht λ h3 n=>Jip I ha n k
 ·exact Jhi hf n (Jip I ha n k)
theorem Jq1 (I:Inv X pj σ H s)(fl:Fly X.env.locals (frs X.stack) a s s1)(hs:X.stack=X.env::X.outer)(hf:X.env.frame=Za X.env.locals)(ha:H a=Za (ExF a C tv d))(ht:TvOk H tv) 
  (k:∀T oT h',Past X H s.heap a C d T oT h'->Q () { s with heap:=h' }):Zy M X.A (leaving X.env (.ref a)) Q E s1:=by
 unfold leaving
 exact Zd (Jtv I fl hs hf ha ht k)
end
def CXI (P:ZB)(w:Zab):CXT:=λ outer H s E e s'=>∃H',s'.os=s.os/\Zdc s'.gens/\Un (frs outer) [] H H' s.heap s'.heap/\HOk P w H' s'.heap/\E e Zc H'
theorem Un.tail (a:Un fs [] H H1 h h1)(b:Un (L::fs) [] H1 H2 h1 h2)(n:h.get? L=Zc):Un fs [] H H2 h h2 where
 keep:=λ c o q m hc _=>b.keep c o (a.keep c o q m hc (by simp)) (a.free c o q m (by simp)) (λ z=>(Z7.mp z).elim (λ y=>by subst y;rw[n] at q;cases q) hc) (by simp)
 slot:=λ c o q m hc _=>by
  obtain⟨sl,e1⟩:=a.slot c o q m hc (by simp)
  obtain⟨sl',e2⟩:=b.any e1 (a.free c o q m (by simp)) (by simp)
  exact⟨sl',e2⟩
 free:=λ c o q m _=>by
  obtain⟨o',e1⟩:=a.there c o q (by simp)
  exact b.free c o' e1 (a.free c o q m (by simp)) (by simp)
 there:=λ c o q _=>by
  obtain⟨o',e1⟩:=a.there c o q (by simp)
  exact b.there c o' e1 (by simp)
 tups:=λ c xs q=>b.tups c xs (a.tups c xs q)
 frzs:=λ c o u q=>b.frzs c o u (a.frzs c o u q)
 tbls:=λ c ps q=>by
  obtain⟨m1,e1⟩:=a.tbls c ps q
  obtain⟨m2,e2⟩:=b.tbls c _ e1
  exact⟨m1++m2,by rw[e2,Array.append_assoc]⟩
section
variable {X:Cx}{pj:PnT}{σ:L2.St}{H:Hp}{s:Zm}{k:Nat}{f C:Zp}{fd:ZaH}{ps:List Str}{sp:Sp}{dvs:List V}{ds:List Ze}{E:XK}{Q:VK}{us:List Ze}{vs:List V}{W:QvT}
theorem Jvz (I:Inv X pj σ H s)(h:CXI X.prog X.w X.stack H s E e s'):∃H',Inv X pj σ H' s'/\E e Zc H':=by
 obtain⟨H',os,bare,un,hok,q⟩:=h
 exact⟨H',I.call' os un hok bare λ b z=>absurd z (by simp),q⟩
theorem Jx0 (F:FnOk X.prog X.w X.K X.mg X.base (CXI X.prog X.w) k f fd ps sp)(hr:Room k X.A)(hb:Qi X.K fd ps ds)(hd:Vals dvs ds)(I:Inv X pj σ H s)(r:Vals vs us)(h:sp (vs++dvs) H Q E) 
  (hx:∀e s' H',Inv X pj σ H' s'->E e Zc H'->W e s'):Zy (Z9 X.prog X.w) X.A (call (.ref f) us) (EP X pj σ Q) W s:=by
 have ra:Vals (vs++dvs) (us++ds):=r.append hd
 have la:=ra.length
 have lf:=F.len _ _ _ _ h
 refine Zew (ZcB (F.run _ _ _ _ ⟨us,[]⟩ _ _ _ _ hr I.env0 (hb s us I.kIn (by omega)) ra h) λ res s' q=>?_)
 match res,q with
 | .error e,q =>
  obtain⟨H',I',z⟩:=Jvz I q
  exact hx e s' H' I' z
 | .ok (.ret u),q=>exact I.after q
 | .ok .next,q=>exact Zbs q
 | .ok .brk,q=>exact Zbs q
 | .ok .cont,q=>exact Zbs q
theorem Jrm (M:Mk X.K C f)(F:FnOk X.prog X.w X.K X.mg X.base (CXI X.prog X.w) k f fd ps sp)(hr:Room (k+1) X.A)(hb:Qi X.K fd ps ds)(hd:Vals dvs ds)(I:Inv X pj σ H s)(r:Vals vs us) 
  (h:∀x dx,H x=Zc->H dx=Zc->dx≠x->sp (.ref x::(vs++dvs)) (upd (upd H dx (.own x)) x (.ins C dx [])) (λ v H2=>v=.non/\Q (.ref x) H2) E)
  (hx:∀e s' H',Inv X pj σ H' s'->E e Zc H'->W e s'):Zy (Z9 X.prog X.w) X.A (call (.ref C) us) (EP X pj σ Q) W s:=by
 have z0:=s.heap.objs.size
 have hq:=h (s.heap.objs.size+1) s.heap.objs.size (I.hok.fresh (ZaL _)) (I.hok.fresh (Zq _)) (Z8 (Zaz _))
 have J:=Inv.made (C:=C) I
 have ra:Vals (V.ref (s.heap.objs.size+1)::(vs++dvs)) (Zde (s.heap.objs.size+1)::(us++ds)):=.cons rfl (r.append hd)
 have la:=ra.length
 have lf:=F.len _ _ _ _ hq
 have hl:(Zde (s.heap.objs.size+1)::us++ds).length=ps.length:=by
  rw[Zan]
  omega
 refine Zew (Jtp (f:=f) I.kIn M.makes M.init (beq_iff_eq.mp M.fn) (ZcB (F.run _ _ _ _ ⟨.ref (s.heap.objs.size+1)::us,[]⟩ _ _ _ _ (hr.make C us []) (J.env0.make C us []) (hb _ (.ref (s.heap.objs.size+1)::us) J.kIn hl) ra hq) λ res s' q=>?_))
 match res,q with
 | .error e,q =>
  obtain⟨H',I',z⟩:=Jvz J q
  exact hx e s' H' I' z
 | .ok (.ret u),q =>
  obtain⟨v,H',J3,rv,ev,q3⟩:=J.after q
  subst ev
  exact⟨rv,⟨V.ref (s.heap.objs.size+1),H',J3,rfl,q3⟩⟩
 | .ok .next,q=>exact Zbs q
 | .ok .brk,q=>exact Zbs q
 | .ok .cont,q=>exact Zbs q
end
structure ItI where
 xs:List IV
 chk:IH->Prop
open Classical in
def Qf (chk:IH->Prop)(g:G1)(b:S1):List IV->ISt->IH->SRes
 | [],σ,h=>if chk h then .next σ h else .stuck
 | x::xs,σ,h=>if chk h then(match g x σ h with
   | .next σ1 h1=>(match b σ1 h1 with
    | .next σ2 h2=>Qf chk g b xs σ2 h2
    | .cont σ2 h2=>Qf chk g b xs σ2 h2
    | .brk σ2 h2=>.next σ2 h2
    | .ret v h2=>.ret v h2
    | .exc n σ2 h2=>(match h2[n]? with
     | some (.exc _ _)=>.exc n σ2 h2
     | _=>.stuck)
    | _=>.stuck)
   | _=>.stuck) else .stuck
abbrev I1:=ISt->IH->Res ItI
def sFor (it:I1)(g:G1)(b:S1):S1:=λ σ h=>rS σ (it σ h) λ J h'=>Qf J.chk g b J.xs σ h'
structure ItOk (ce:CeT)(K:W.Frag)(ι:List Zp)(H₀:Hp)(J:It)(I:ItI):Prop where
 go:∀(k:Nat)(x:IV)(h:IH)(H:Hp)(ι':List Zp),Nxt ι H₀ ι' H->Rel ce K ι' h H->I.chk h->I.xs[k]?=Za x ->
  J.go k H/\∀y H',J.yld k H y H'->Rel ce K ι' h H'/\Nxt ι' H ι' H'/\RV K ι' H' x y
 stop:∀(k:Nat)(h:IH)(H:Hp)(ι':List Zp),Nxt ι H₀ ι' H->Rel ce K ι' h H->I.chk h->I.xs.length<=k->J.stop k H
theorem Rel.get {ce:CeT}{K:W.Frag}{ι:List Zp}{h:IH}{H:Hp}(R:Rel ce K ι h H){i:Nat}{o:IX}(e:h[i]?=Za o){a:Zp}(ha:ι[i]?=Za a):RO ce K ι H a o:=by
 obtain⟨b,e1,r⟩:=R.at_ i o e
 rw[ha] at e1
 cases e1
 exact r
def RIt (ce:CeT)(X:Cx)(tg:Expr)(pj:PnT)(ι':List Zp)(I:ItI)(itv:Ze)(s2:Zm)(H':Hp):Prop :=
 ∃(it:Zp)(fp:List Zp)(tn:Nat->Zax->Prop)(J:It),itv=.ref it/\Turn X.prog X.w X.K tg J fp it tn/\tn 0 s2.heap/\(∀b∈fp,FpOk X pj H' b)/\ItOk ce X.K ι' H' J I
def PIi (ce:CeT)(X:Cx)(tg iter:Expr)(m:I1):Prop :=
 ∀(pj:PnT)(s:Zm)(σ:L2.St)(H:Hp)(ι:List Zp)(σi:ISt)(h:IH)(Q:QvT)(E:QvT),Now ce X pj ι σi h σ H s ->
  (match m σi h with
   | .ok I h'=>∀itv s' H' ι',Now ce X pj ι' σi h' σ H' s'->Nxt ι H ι' H'->RIt ce X tg pj ι' I itv s' H'->Q itv s'
   | .exc n h'=>∀pl a s' H' ι',Now ce X (pj++pl) ι' σi h' σ H' s'->Nxt ι H ι' H'->ι'[n]?=Za a->E (.ref a) s'
   | .stuck=>False) ->
  Zy (Z9 X.prog X.w) X.A (ZaY iter X.env) (λ v s1=>Zy (Z9 X.prog X.w) X.A (Zeu v) Q E s1) E s
section
variable {ce:CeT}{X:Cx}
theorem nof {M:Model}{A:ZN}{α:Type}{t:Sem α}{Q:α->Zm->Prop}{E:QvT}{s:Zm}(h:Zy M A t Q (λ _ _=>False) s):Zy M A t Q E s:=Zap h (λ _ _ x=>x) λ _ _ z=>z.elim
theorem Now.pins {pj:PnT}{pl:PnT}{ι:List Zp}{σi:ISt}{h:IH}{σ:L2.St}{H:Hp}{s:Zm}(N:Now ce X (pj++pl) ι σi h σ H s):Now ce X pj ι σi h σ H s:=⟨N.inv.unpinned,N.rel,N.st⟩
theorem J3c {tg iter:Expr}{body:List Zdh}{mi:I1}{g:G1}{mb:S1}{pos:Pos}(hc:X.calm=Zh)(hst:X.stack=X.env::X.outer)(hf:X.env.frame=Za X.env.locals)(hi:PIi ce X tg iter mi)(hg:PGi ce X tg g)(hb:PS2 ce X body mb)
  (hs:∀x,Zcc iter X.env x=pure x:=by intro _;rfl):PS1 ce X (.For tg iter body [] pos) (sFor mi g mb):=by
 intro pj s σ H ι σi h Q E N K
 refine wpAny_For (hi pj s σ H ι σi h _ E N ?_) hs
 unfold sFor at K
 cases e0:mi σi h with
 | exc n h'=>rw[e0] at K;exact λ pl a s' H' ι' N' n' q=>K pl a s' σ H' ι' N' n' q s' (.inl rfl)
 | stuck=>rw[e0] at K;exact K
 | ok I h' =>
  rw[e0] at K
  intro itv s2 H2 ι2 N2 n2 R
  obtain⟨it,fp,tn,J,e,T,st2,f2,OK⟩:=R
  subst e
  have stat:∀{H':Hp},(∀b∈fp,H' b=Zc)->∀b∈fp,FpOk X pj H' b:=λ hn b hb=>⟨hn b hb,(f2 b hb).2⟩
  have K2:JF ce X pj ι2 H2 (Qf I.chk g mb I.xs σi h') Q E:=JF.mono (r:=Qf I.chk g mb I.xs σi h') K n2
  refine codeAny_forLoop_any (λ n s'=>∃k ιk σk hk σ' H',Now ce X pj ιk σk hk σ' H' s'/\Nxt ι2 H2 ιk H'/\tn k s'.heap/\(∀b∈fp,H' b=Zc)/\n=I.xs.length-k/\k<=I.xs.length/\JF ce X pj ιk H' (Qf I.chk g mb (I.xs.drop k) σk hk) Q E) ?_ I.xs.length
   ⟨0,ι2,σi,h',σ,H2,N2,.refl,st2,λ b hb=>(f2 b hb).1,by simp,ZY _,by simpa using K2⟩
  rintro n s3 ⟨k,ιk,σk,hk,σ3,H3,N3,n3,st3,fr3,rfl,hkl,K3⟩
  by_cases hlt:k<I.xs.length
  ·-- a turn
   have hd:I.xs.drop k=I.xs[k]::I.xs.drop (k+1):=Za2 hlt
   rw[hd] at K3
   unfold Qf at K3
   split at K3
   ·rename_i hck
    obtain⟨go,yl⟩:=OK.go k I.xs[k] hk H3 ιk n3 N3.rel hck (Zb hlt)
    refine nof (thn (T.item X rfl rfl rfl hc k pj s3 σ3 H3 (λ _ _=>False) N3.inv (stat fr3) st3 go) λ r s4 ⟨u,hr,h4⟩=>?_)
    subst hr
    refine nof (thn h4 λ _ s5 ⟨x,H5,I5,r5,y5,st5,fr5⟩=>?_)
    obtain⟨R5,n5,q5⟩:=yl x H5 y5
    have I5':=I5.pinned (stat fr5) (T.obj _ _ st5)
    have N5:Now ce X (pj++QG fp s5.heap) ιk σk hk σ3 H5 s5:=⟨I5',R5,N3.st.mono n5⟩
    cases eg:g I.xs[k] σk hk with
    | next σg hgg =>
     rw[eg] at K3
     dsimp only at K3
     refine nof (hg _ s5 σ3 H5 ιk σk hk _ u (λ _ s6=>Zy (Z9 X.prog X.w) X.A (execs body X.env) _ _ s6) (λ _ _=>False) N5 ⟨x,r5,q5⟩ ?_)
     rw[eg]
     intro s6 σ6 H6 ι6 N6 n6
     refine hb _ s6 σ6 H6 ι6 σg hgg _ _ N6 ?_
     have again:∀{σ7:L2.St}{H7:Hp}{s7:Zm}{σ7i:ISt}{h7:IH}{ι7:List Zp},Now ce X (pj++QG fp s5.heap) ι7 σ7i h7 σ7 H7 s7->Nxt ι6 H6 ι7 H7->JF ce X pj ιk H3 (Qf I.chk g mb (I.xs.drop (k+1)) σ7i h7) Q E ->
       ∃m,m<I.xs.length-k/\∃k ιk σk hk σ' H',Now ce X pj ιk σk hk σ' H' s7/\Nxt ι2 H2 ιk H'/\tn k s7.heap/\(∀b∈fp,H' b=Zc)/\m=I.xs.length-k/\k<=I.xs.length/\JF ce X pj ιk H' (Qf I.chk g mb (I.xs.drop k) σk hk) Q E :=
      λ {σ7 H7 s7 σ7i h7 ι7} N7 n7 K7=>by
       have nn:Nxt ιk H3 ι7 H7:=(n5.trans n6).trans n7
       refine⟨I.xs.length-(k+1),by omega,k+1,ι7,σ7i,h7,σ7,H7,N7.pins,n3.trans nn,T.keep _ _ _ st5 λ b hb o e=>(N7.inv.pin (b,o) (Zi _ (Zi _ (Ys hb e)))).1,λ b hb=>?_,rfl,hlt,K7.mono nn⟩
       obtain⟨o,e,d⟩:=T.obj _ _ st5 b hb
       exact(N7.inv.pin (b,o) (Zi _ (Zi _ (Ys hb e)))).2.1
     cases eb:mb σg hgg with
     | next σ7i h7 =>
      rw[eb] at K3
      exact λ s7 σ7 H7 ι7 N7 n7=>again N7 n7 K3
     | cont σ7i h7 =>
      rw[eb] at K3
      exact λ s7 σ7 H7 ι7 N7 n7=>again N7 n7 K3
     | brk σ7i h7 =>
      rw[eb] at K3
      exact λ s7 σ7 H7 ι7 N7 n7=>K3 s7 σ7 H7 ι7 N7.pins ((n5.trans n6).trans n7)
     | ret v h7 =>
      rw[eb] at K3
      exact λ u s7 σ7i σ7 H7 ι7 N7 n7 r=>K3 u s7 σ7i σ7 H7 ι7 N7.pins ((n5.trans n6).trans n7) r
     | exc n σ7i h7 =>
      rw[eb] at K3
      dsimp only at K3
      cases hj:h7[n]? with
      | none=>rw[hj] at K3;exact Zf K3
      | some ob =>
       cases ob with
       | exc c fs =>
        rw[hj] at K3
        intro pl a s7 σ7 H7 ι7 N7 n7 q s8 fl
        obtain⟨C,tv,d,fe,hC,ha,ht⟩:=N7.rel.get hj q
        have back:∀h8,Noted X.env.locals (frs X.stack) a s7.heap h8->cameBackBy (Z9 X.prog X.w) X.A X.env E (.ref a) { s7 with heap:=h8 }:=λ h8 n8 =>
         Jo1 hf n8 λ h9 n9=>K3 (QG fp s5.heap++pl) a s7 σ7 H7 ι7 (by rw[<- Zad];exact N7) ((n5.trans n6).trans n7) q _ (.inr ⟨h9,rfl,n9⟩)
        rcases fl with rfl|⟨h8,rfl,n8⟩
        ·exact Jnb N7.inv hst hf ha ht back
        ·exact Jhi hf n8 (back h8 n8)
       | _=>rw[hj] at K3;exact Zf K3
     | stuck=>rw[eb] at K3;exact Zf K3
    | _=>rw[eg] at K3;exact Zf K3
   ·exact Zf K3
  ·have hke:I.xs.drop k=[]:=ZcC (by omega)
   rw[hke] at K3
   unfold Qf at K3
   split at K3
   ·rename_i hck
    have stop:=OK.stop k hk H3 ιk n3 N3.rel hck (by omega)
    refine nof (thn (T.done X rfl rfl rfl hc k pj s3 σ3 H3 (λ _ _=>False) N3.inv (stat fr3) st3 stop) λ r s4 ⟨hr,I4⟩=>?_)
    subst hr
    exact ZcX (K3 s4 σ3 H3 ιk ⟨I4,N3.rel,N3.st⟩ .refl)
   ·exact Zf K3
noncomputable def itOf:IV->IH->Res ItI
 | .ref i,h=>match h[i]? with
  | some (.lst xs)=>.ok ⟨xs,λ h'=>h'[i]?=Za (.lst xs)⟩ h
  | _=>.stuck
 | .rol xs,h=>.ok ⟨xs,λ _=>True⟩ h
 | .tup xs,h=>.ok ⟨xs,λ _=>True⟩ h
 | _,_=>.stuck
def iVal (e:E1):I1:=λ σ h=>(e σ h).bind itOf
variable {tg:Expr}
theorem Jzu {a:Zp}{i:Nat}{xs:List IV}{ι:List Zp}{H₀:Hp}(ha:ι[i]?=Za a):ItOk ce X.K ι H₀ (Itl X.K a) ⟨xs,λ h'=>h'[i]?=Za (.lst xs)⟩:=by
 refine⟨λ k x h H ι' hp R hck hx=>?_,λ k h H ι' hp R hck hx=>?_⟩
 ·obtain⟨vs,e1,r1⟩:=R.get hck (hp.at ha)
  obtain⟨v,hv,qv⟩:=r1.get hx
  refine⟨⟨vs,v,SqL.of e1,hv⟩,λ y H' hy=>?_⟩
  obtain⟨rfl,hy⟩:=hy
  have:=hy vs (SqL.of e1)
  rw[hv] at this
  cases this
  exact⟨R,.refl,qv⟩
 ·obtain⟨vs,e1,r1⟩:=R.get hck (hp.at ha)
  exact⟨vs,SqL.of e1,by rw[r1.length];exact hx⟩
theorem Jzv {a:Zp}{xs:List IV}{vs:List V}{ι:List Zp}{H₀:Hp}(sa:SqR X.K H₀ a vs)(ra:RVs X.K ι H₀ xs vs):ItOk ce X.K ι H₀ (Itl X.K a) ⟨xs,λ _=>True⟩:=by
 refine⟨λ k x h H ι' hp R hck hx=>?_,λ k h H ι' hp R hck hx=>?_⟩
 ·obtain⟨v,hv,qv⟩:=ra.get hx
  have sq:=(hp.ext.sqR sa).sq
  refine⟨⟨vs,v,sq,hv⟩,λ y H' hy=>?_⟩
  obtain⟨rfl,hy⟩:=hy
  have:=hy vs sq
  rw[hv] at this
  cases this
  exact⟨R,.refl,RV.mono hp _ _ qv⟩
 ·exact⟨vs,(hp.ext.sqR sa).sq,by rw[ra.length];exact hx⟩
theorem Jzw {a:Zp}{xs:List IV}{vs:List V}{ι:List Zp}{H₀:Hp}(sa:SqT X.K H₀ a vs)(ra:RVs X.K ι H₀ xs vs):ItOk ce X.K ι H₀ (Itt X.K a) ⟨xs,λ _=>True⟩:=by
 refine⟨λ k x h H ι' hp R hck hx=>?_,λ k h H ι' hp R hck hx=>?_⟩
 ·obtain⟨v,hv,qv⟩:=ra.get hx
  have sq:=hp.ext.sqT sa
  refine⟨⟨vs,v,sq,hv⟩,λ y H' hy=>?_⟩
  obtain⟨rfl,hy⟩:=hy
  have:=hy vs sq
  rw[hv] at this
  cases this
  exact⟨R,.refl,RV.mono hp _ _ qv⟩
 ·exact⟨vs,hp.ext.sqT sa,by rw[ra.length];exact hx⟩
theorem Jql {l:Expr}{ml:E1}(hl:PEi ce X l ml):PIi ce X tg l (iVal ml):=by
 intro pj s σ H ι σi h Q E N K
 refine hl pj s σ H ι σi h _ E N ?_
 unfold iVal at K
 cases e0:ml σi h with
 | exc n h'=>rw[e0] at K;exact K
 | stuck=>rw[e0] at K;exact K
 | ok v h' =>
  rw[e0] at K
  intro u s1 H1 ι1 N1 n1 r1
  obtain⟨w,rw',q⟩:=r1
  have fresh:∀b∈[s1.heap.objs.size],FpOk X pj H1 b:=λ b hb=>by
   have e:b=s1.heap.objs.size:=by simpa using hb
   subst e
   exact N1.inv.fpOk (Zq _) (N1.inv.hok.fresh (Zq _))
  cases v with
  | ref i =>
   obtain⟨a,e1,ha⟩:=q
   subst e1
   cases rw'
   cases hi:h'[i]? with
   | none=>simp only[Res.bind,itOf,hi] at K
   | some o =>
    cases o with
    | lst xs =>
     simp only[Res.bind,itOf,hi] at K
     obtain⟨vs,e1,r1⟩:=N1.at hi ha
     obtain⟨its,rv,p,hz⟩:=N1.inv.list (SqL.of e1)
     refine ZaN p.isList (K _ _ H1 ι1 ⟨N1.inv.kept (t':=s1.toks) λ b o e=>Zg _ e,N1.rel,N1.st⟩ n1 ?_)
     exact⟨s1.heap.objs.size,[s1.heap.objs.size],_,Itl X.K a,rfl,Jlw a _,⟨_,Zz _ rfl,rfl,rfl⟩,fresh,Jzu ha⟩
    | _=>simp only[Res.bind,itOf,hi] at K
  | rol xs =>
   obtain⟨a,vs,e1,sa,ra⟩:=q
   subst e1
   cases rw'
   simp only[Res.bind,itOf] at K
   obtain⟨its,rv,p,hz⟩:=N1.inv.list sa.sq
   refine ZaN p.isList (K _ _ H1 ι1 ⟨N1.inv.kept (t':=s1.toks) λ b o e=>Zg _ e,N1.rel,N1.st⟩ n1 ?_)
   exact⟨s1.heap.objs.size,[s1.heap.objs.size],_,Itl X.K a,rfl,Jlw a _,⟨_,Zz _ rfl,rfl,rfl⟩,fresh,Jzv sa ra⟩
  | tup xs =>
   obtain⟨a,vs,e1,sa,ra⟩:=q
   subst e1
   cases rw'
   simp only[Res.bind,itOf] at K
   obtain⟨its,rv,p,hz⟩:=N1.inv.tuple sa
   refine wpAny_pyIter_tuple (show s1.heap.IsTuple a its.toArray from p) (K _ _ H1 ι1 ⟨N1.inv.kept (t':=s1.toks) λ b o e=>Zg _ e,N1.rel,N1.st⟩ n1 ?_)
   exact⟨s1.heap.objs.size,[s1.heap.objs.size],_,Itt X.K a,rfl,Jpg a _,⟨_,Zz _ rfl,rfl,rfl⟩,fresh,Jzw sa ra⟩
  | _=>simp only[Res.bind,itOf] at K
noncomputable def rngI (lo hi:Int):List IV:=(ZT (hi-lo).toNat).map λ k=>.int (lo+(k:Nat))
def Q3:List IV->IH->Res ItI
 | [.int j],h=>if -(2^62)<=j/\j<2^62 then .ok ⟨rngI 0 j,λ _=>True⟩ h else .stuck
 | _,_=>.stuck
def VI:List IV->IH->Res ItI
 | [.int i,.int j],h=>if -(2^62)<=i/\i<2^62/\ -(2^62)<=j/\j<2^62 then .ok ⟨rngI i j,λ _=>True⟩ h else .stuck
 | _,_=>.stuck
theorem Jk5 {vs:List IV}{h:IH}(hv:¬ ∃i j,vs=[.int i,.int j]):VI vs h=.stuck:=by
 unfold VI
 split
 ·exact absurd ⟨_,_,rfl⟩ hv
 ·rfl
def iRg (f:List IV->IH->Res ItI)(a:A1):I1:=λ σ h=>(a σ h).bind f
theorem J0v {lo hi:Int}{ι:List Zp}{H₀:Hp}:ItOk ce X.K ι H₀ (Itr lo (hi-lo).toNat) ⟨rngI lo hi,λ _=>True⟩:=by
 refine⟨λ k x h H ι' hp R hck hx=>?_,λ k h H ι' hp R hck hx=>?_⟩
 ·have hk:k<(hi-lo).toNat:=by
   have:=(Zo.mp hx).1
   simpa [rngI] using this
  refine⟨hk,λ y H' hy=>?_⟩
  obtain⟨rfl,rfl⟩:=hy
  simp only[rngI,Z1,List.getElem?_range hk] at hx
  cases hx
  exact⟨R,.refl,rfl⟩
 ·have:(rngI lo hi).length=(hi-lo).toNat:=by simp[rngI]
  show(hi-lo).toNat<=k
  rw[<- this]
  exact hx
theorem Jlc {pj:PnT}{σ:L2.St}{H:Hp}{ι:List Zp}{σi:ISt}{h:IH}{s:Zm}{Q:QvT}{E:QvT}{lo hi:Int}{t u v:Tok}{tk:Nat}(N:Now ce X pj ι σi h σ H s)
  (h1: -(2^62)<=lo)(h2:lo<2^62)(h3: -(2^62)<=hi)(h4:hi<2^62)
  (K:∀itv s' H' ι',Now ce X pj ι' σi h σ H' s'->Nxt ι H ι' H'->RIt ce X tg pj ι' ⟨rngI lo hi,λ _=>True⟩ itv s' H'->Q itv s') :
  Zy (Z9 X.prog X.w) X.A (Zeu (.ref s.heap.objs.size)) Q E { s with heap:=s.heap.push { cls:=.type "range",data:=.fields #[.int lo t,.int hi u,.int 1 v] },toks:=tk }:=by
 have:=Jt0 (X:=X) (tg:=tg) (E:=E) (R:=λ J H'=>J=Itr lo (hi-lo).toNat/\H'=H) (t:=t) (u:=u) (v:=v) (tk:=tk) N.inv h1 h2 h3 h4 ⟨rfl,rfl⟩
 refine Zap this (λ itv s' hq=>?_) λ _ _ z=>z
 obtain⟨it,fp,tn,J,H',e,I',T,st,f,rfl,rfl⟩:=hq
 exact K itv s' _ ι ⟨I',N.rel,N.st⟩ .refl ⟨it,fp,tn,_,e,T,st,f,J0v⟩
theorem Js6 {a:Expr}{ma:A1}{p pos:Pos}(hg:Gl X "range")(hm:X.mg "range"=Zc)(ha:PAi ce X [a] ma)(hs:ZD [a] X.env=[(Zk,ZaY a X.env)]:=by rfl):PIi ce X tg (.Call (.Name "range" p) [a] [] pos) (iRg Q3 ma):=by
 intro pj s σ H ι σi h Q E N K
 refine Call_ (Qr N.inv hg hm boot_range (ZaB ?_ hs rfl))
 refine ha pos pj s σ H ι σi h _ E N ?_
 unfold iRg at K
 cases e0:ma σi h with
 | exc n h'=>rw[e0] at K;exact K
 | stuck=>rw[e0] at K;exact K
 | ok vs h' =>
  rw[e0] at K
  intro us s1 H1 ι1 N1 n1 r1
  obtain⟨xs,rv,qs⟩:=r1
  match vs,K with
  | [.int j],K =>
   obtain⟨w,r,e1,q,q2⟩:=qs
   have e2:r=[]:=q2
   subst e1 e2
   have e3:w=.int j:=q
   subst e3
   cases rv with
   | cons r rr =>
    cases rr
    obtain⟨t,rfl⟩:=r
    simp only[Res.bind,Q3] at K
    by_cases hb: -(2^62)<=j/\j<2^62
    ·rw[if_pos hb] at K
     exact call_range_1 (Jlc N1 (by omega) (by omega) hb.1 hb.2 λ itv s' H' ι' N' n' R=>K itv s' H' ι' N' (n1.trans n') R)
    ·rw[if_neg hb] at K
     exact K.elim
  | [],K=>exact Zf K
  | .non::_,K=>exact Zf K
  | .bl _::_,K=>exact Zf K
  | .str _::_,K=>exact Zf K
  | .tup _::_,K=>exact Zf K
  | .rol _::_,K=>exact Zf K
  | .ref _::_,K=>exact Zf K
  | .int _::_::_,K=>exact Zf K
theorem Js7 {a b:Expr}{ma:A1}{p pos:Pos}(hg:Gl X "range")(hm:X.mg "range"=Zc)(ha:PAi ce X [a,b] ma)(hs:ZD [a,b] X.env=[(Zk,ZaY a X.env),(Zk,ZaY b X.env)]:=by rfl)(hs2:ZD [b] X.env=[(Zk,ZaY b X.env)]:=by rfl) :
  PIi ce X tg (.Call (.Name "range" p) [a,b] [] pos) (iRg VI ma):=by
 intro pj s σ H ι σi h Q E N K
 refine Call_ (Qr N.inv hg hm boot_range (ZaB ?_ (by rw[hs,hs2]) (by rw[hs2];rfl)))
 refine ha pos pj s σ H ι σi h _ E N ?_
 unfold iRg at K
 cases e0:ma σi h with
 | exc n h'=>rw[e0] at K;exact K
 | stuck=>rw[e0] at K;exact K
 | ok vs h' =>
  rw[e0] at K
  intro us s1 H1 ι1 N1 n1 r1
  obtain⟨xs,rv,qs⟩:=r1
  by_cases hv:∃i j,vs=[.int i,.int j]
  ·obtain⟨i,j,rfl⟩:=hv
   obtain⟨w,r,e1,q,w',r',e1',q',q2⟩:=qs
   have e2:r'=[]:=q2
   subst e1 e1' e2
   have e3:w=.int i:=q
   have e4:w'=.int j:=q'
   subst e3 e4
   cases rv with
   | cons r rr =>
    cases rr with
    | cons r' rr =>
     cases rr
     obtain⟨t,rfl⟩:=r
     obtain⟨t',rfl⟩:=r'
     simp only[Res.bind,VI] at K
     by_cases hb: -(2^62)<=i/\i<2^62/\ -(2^62)<=j/\j<2^62
     ·rw[if_pos hb] at K
      exact call_range_2 (Jlc N1 hb.1 hb.2.1 hb.2.2.1 hb.2.2.2 λ itv s' H' ι' N' n' R=>K itv s' H' ι' N' (n1.trans n') R)
     ·rw[if_neg hb] at K
      exact K.elim
  ·simp only[Res.bind,Jk5 hv] at K
end
end L3
namespace L3
open PySem PySem.Spec PySem.Calls PyProof.Rows L2
section
variable {prog:ZB}{w:Zab}{A:ZN}{E:QvT}{s:Zm}{K:W.Frag}{x D:Zp}{ox:Obj}
open PySem.W PySem.Builtin PySem.Builtin.ObjectAttr PySem.Builtin.Getset_descriptor in
end
structure ExI (K:W.Frag)(C:Zp):Prop where
 ga:W.findIn K (.ref C) "__getattribute__"=Za (Za (.builtin "BaseException.__getattribute__"))
 mb:W.mroIn K C (.type "BaseException")=Za Zh
 gn:W.findIn K (.ref C) "__getattr__"=Za Zc
 ca:W.findIn K (.ref C) "__class__"=Za (Za (.builtin "object.__class__"))
 mo:W.mroIn K C (.type "object")=Za Zh
 hd:W.hasDictIn K C=Zh
end L3
namespace L3
open PySem PySem.Spec PyProof.Rows L2
def XL (n:Nat)(vs:List IV):ISt:=vs.map Za++ZR (n-vs.length) Zc
noncomputable def SRes.fin (r:SRes):Res IV:=match r with
 | .next _ h'=>.ok .non h'
 | .ret v h'=>.ok v h'
 | .exc n _ h'=>(match h'[n]? with
  | some (.exc _ _)=>.exc n h'
  | _=>.stuck)
 | _=>.stuck
noncomputable def fnI (n:Nat)(m:S1):List IV->IH->Res IV:=λ vs h=>(m (XL n vs) h).fin
def spI (ce:CeT)(K:W.Frag)(ps:List Str)(f:List IV->IH->Res IV):Sp:=λ vs H Q E =>
 vs.length=ps.length/\∃ι h ivs,Rel ce K ι h H/\RVs K ι H ivs vs /\
  match f ivs h with
  | .ok v h'=>∀x H' ι',Rel ce K ι' h' H'->Nxt ι H ι' H'->RV K ι' H' v x->Q x H'
  | .exc n h'=>∀a H' ι',Rel ce K ι' h' H'->Nxt ι H ι' H'->ι'[n]?=Za a->E (.ref a) Zc H'
  | .stuck=>False
theorem RVs.start {K:W.Frag}{ι:List Zp}{H:Hp}{N:List Str}{ivs:List IV}{vs:List V}(r:RVs K ι H ivs vs):RSt K ι H (XL N.length ivs) (L2.start N vs):=by
 have hl:=r.length
 refine⟨by simp[XL,L2.start,hl],λ j v e=>?_⟩
 unfold XL at e
 unfold L2.start
 by_cases hj:j<ivs.length
 ·rw[ZE (by simpa using hj),Z1] at e
  rw[ZE (by simp;omega),Z1]
  cases e1:ivs[j]? with
  | none=>rw[e1] at e;cases e
  | some w =>
   rw[e1] at e
   cases e
   obtain⟨u,hu,q⟩:=r.get e1
   exact⟨u,by rw[hu];rfl,q⟩
 ·rw[ZA (by simpa using hj),ZbH] at e
  split at e<;>cases e
theorem Jni {α:Type}:∀{l:List α}{i:Nat}{x:α},l[i]?=Za x->l.set i x=l
 | [],_,_,e=>by simp at e
 | a::l,0,x,e=>by cases e;rfl
 | a::l,i+1,x,e=>by
  show a::l.set i x=a::l
  rw[Jni (l:=l) e]
theorem J28 {ce:CeT}{K:W.Frag}{ι:List Zp}{h:IH}{H:Hp}{i:Nat}{o:IX}{a:Zp}(R:Rel ce K ι h H)(e:h[i]?=Za o)(q:ι[i]?=Za a):RO ce K ι H a o:=by
 obtain⟨b,e1,r⟩:=R.at_ i o e
 rw[q] at e1
 cases e1
 exact r
structure FunD (K:W.Frag)(x qual:Str)(st:Zdh)(f:Zp)(fd:ZaH)(dV:Ze):Prop where
 ex:∃(oc:Ze)(od:Option Zp)(kV doc pm:Ze)(an:Option Zp)(cdv ct:Ze)(osl:Array (Option Ze)),
  fd=W.fnOf x qual (QQ st) (Qo st) (JQ st) dV kV doc pm an cdv ct/\K.lookup f=Za ⟨oc,od,.func fd,osl⟩/\W.codeIn K cdv qual=Zh
 kp:W.keepIn K (.ref f)=Zh
section
variable {P:ZB}{w:Zab}{K:W.Frag}{mg:Str->Option Ze}{base:Zax}{ce:CeT}
theorem FunD.fn {x qual:Str}{st:Zdh}{f:Zp}{fd:ZaH}{dV:Ze}{N ps:List Str}{k n:Nat}{m:S1}(F:FunD K x qual st f fd dV)(S:FnScope N ps (JQ st))
  (hbody:∀(cdv:Ze)(A:ZN)(outer:List Env)(s:Zm)(H:Hp)(E:XK),W.codeIn K cdv qual=Zh->Room k (A.deeper (Zea qual (JQ st) s.heap.objs.size f cdv))->PS2 ce (cxOf (CXI P w) P w K mg base N qual (JQ st) f cdv A outer s H E).nox (Qo st) m)(hn:N.length=n:=by rfl) :
  FnOk P w K mg base (CXI P w) (k+1) f fd ps (spI ce K ps (fnI n m)):=by
 subst hn
 obtain⟨oc,od,kV,doc,pm,an,cdv,ct,osl,rfl,lk,hcd⟩:=F.ex
 refine J14 lk hcd S (λ vs H Q E h=>h.1) λ A outer s H vs Q E hr hsp=>?_
 obtain⟨hl,ι,h,ivs,R,rv,hk⟩:=hsp
 refine⟨λ D σ H=>∃ι σi h,Rel ce K ι h H/\RSt K ι H σi σ/\match m σi h with
  | .next σi' h'=>∀σ' H' ι',Rel ce K ι' h' H'->RSt K ι' H' σi' σ'->Nxt ι H ι' H'->D.nx σ' H'
  | .ret v h'=>∀x H' ι',Rel ce K ι' h' H'->Nxt ι H ι' H'->RV K ι' H' v x->D.rt x H'
  | .exc n _ h'=>(∃c fs,h'[n]?=Za (.exc c fs))/\∀a H' ι',Rel ce K ι' h' H'->Nxt ι H ι' H'->ι'[n]?=Za a->E (.ref a) Zc H'
  | _=>False,λ pj s' σ' H' D I ht=>?_,ι,XL N.length ivs,h,R,rv.start,?_⟩
 ·obtain⟨ι,σi,h,R,rs,hm⟩:=ht
  refine Zap (hbody cdv A outer s H E hcd hr pj s' σ' H' ι σi h (SP _ pj D) _ ⟨I.wish _,R,rs⟩ ?_) (λ _ _ z=>z) (λ _ _ z=>z)
  cases e:m σi h with
  | next σ2 h2 =>
   rw[e] at hm
   exact λ s3 σ3 H3 ι3 N3 n3=>⟨σ3,H3,N3.inv.unwish,hm σ3 H3 ι3 N3.rel N3.st n3⟩
  | ret v h2 =>
   rw[e] at hm
   exact λ u s3 σ3i σ3 H3 ι3 N3 n3 ⟨z,rz,q⟩=>⟨z,σ3,H3,N3.inv.unwish,rz,hm z H3 ι3 N3.rel n3 q⟩
  | exc j σ2 h2 =>
   rw[e] at hm
   obtain⟨⟨c,fs,hj⟩,hm⟩:=hm
   intro pl a s3 σ3 H3 ι3 N3 n3 hi s4 fl
   have I3:=N3.inv.unwish
   obtain⟨C,tv,d,fe,hC,ha,ht⟩:=J28 N3.rel hj hi
   refine Jq1 I3 fl rfl rfl ha ht λ T oT h' p=>?_
   have nl:s.heap.get? s.heap.objs.size=Zc:=Heap.get?_none_of_le (Zq _)
   obtain⟨R4,n4⟩:=N3.rel.grow (o:=.frz oT (.own 0)) p.new
   have ha4:upd H3 T (.frz oT (.own 0)) a=Za (ExF a C tv d):=by rw[Jq (ZI p.ne)];exact ha
   obtain⟨R5,n5⟩:=R4.write hi ha4 (by rw[ha4];trivial) (o:=ExF a C (.ref T) d) (io:=.exc c fs) ⟨C,.ref T,d,fe.mono p.un.frzs,hC,J7,.inr ⟨T,oT,_,rfl,by rw[Jq p.ne,J7],p.fld.choose_spec⟩⟩
   rw[Jni hj] at R5
   exact⟨_,I3.os,I3.bare,Un.tail I3.base p.un nl,p.hok,hm a _ ι3 R5 ((n3.trans n4).trans n5) hi⟩
  | _=>rw[e] at hm;exact hm.elim
 ·unfold fnI SRes.fin at hk
  cases e:m (XL N.length ivs) h with
  | next σ2 h2 =>
   rw[e] at hk
   exact λ σ3 H3 ι3 R3 _ n3=>hk .non H3 ι3 R3 n3 rfl
  | ret v h2 =>
   rw[e] at hk
   exact hk
  | exc j σ2 h2 =>
   rw[e] at hk
   dsimp only at hk
   cases q:h2[j]? with
   | none=>rw[q] at hk;exact hk.elim
   | some o =>
    cases o with
    | exc c fs=>rw[q] at hk;exact⟨⟨c,fs,q⟩,hk⟩
    | _=>rw[q] at hk;exact hk.elim
  | _=>rw[e] at hk;exact hk.elim
end
noncomputable def Res.nx {α:Type}:Res α->Res α
 | .ok a h=>.ok a h
 | _=>.stuck
def Jn (f:List IV->IH->Res IV)(dvs:List IV)(a:A1):E1:=λ σ h=>(a σ h).bind λ vs h1=>f (vs++dvs) h1
def QR (c:Str)(f:List IV->IH->Res IV)(dvs:List IV)(a:A1):E1:=λ σ h=>(a σ h).bind λ vs h1=>(f (.ref h1.length::(vs++dvs)) (h1++[.ins c []])).bind λ r h2=>match r with
 | .non=>.ok (.ref h1.length) h2
 | _=>.stuck
def Jst (m:Str)(disp:Str->Option ((List IV->IH->Res IV)×List IV))(o:E1)(a:A1):E1:=λ σ h=>(o σ h).bind λ v h1=>match v with
 | .ref i=>(match h1[i]? with
  | some (.ins c fs)=>(match disp c,fs.lookup m with
   | some (f,dvs),Zc=>(a σ h1).bind λ vs h2=>f (.ref i::(vs++dvs)) h2
   | _,_=>.stuck)
  | _=>.stuck)
 | _=>.stuck
section
variable {ce:CeT}{X:Cx}{k:Nat}{fa C:Zp}{fd:ZaH}{ps:List Str}{f:List IV->IH->Res IV}{dvs:List IV}{ds:List Ze}{x m:Str}{p pos apos:Pos}{e o:Expr}{es:List Expr}{mo:E1}{ma:A1}
theorem Yy {pj:PnT}{σ:L2.St}{H:Hp}{ι:List Zp}{σi:ISt}{h:IH}{s:Zm}{Q:QvT}{E:QvT}{us:List Ze}{xs:List IV}(F:FnOk X.prog X.w X.K X.mg X.base (CXI X.prog X.w) k fa fd ps (spI ce X.K ps f))(hr:Room k X.A)(hb:Qi X.K fd ps ds) 
  (hd:∃vs,Vals vs ds/\∀ι H,RVs X.K ι H dvs vs)(hlen:us.length+ds.length=ps.length)(N:Now ce X pj ι σi h σ H s)(r:RUs X.K ι H xs us)(K:Kont ce X RU pj ι σi σ H (f (xs++dvs) h) Q E):Zy (Z9 X.prog X.w) X.A (call (.ref fa) us) Q E s:=by
 obtain⟨vs,rv,q⟩:=r
 obtain⟨dv,rd,qd⟩:=hd
 have hl1:=rv.length
 have hl2:=rd.length
 refine Zap (Jx0 (Q:=λ z H'=>∀u s',Inv X pj σ H' s'->RelV z u->Q u s') (E:=λ v _ H'=>∀s',Inv X pj σ H' s'->E v s') F hr hb rd N.inv rv ⟨by rw[Zx];omega,ι,h,xs++dvs,N.rel,q.append (qd ι H),?_⟩ λ _ s' _ I' z=>z s' I')
  (λ u s' ⟨z,H',I',r',k'⟩=>k' u s' I' r') λ _ _ z=>z
 cases e:f (xs++dvs) h with
 | ok v h' =>
  rw[e] at K
  exact λ z H' ι' R' n' qz u s' I' ru=>K u s' H' ι' ⟨I',R',N.st.mono n'⟩ n' ⟨z,ru,qz⟩
 | exc n h' =>
  rw[e] at K
  exact λ a H' ι' R' n' hi s' I'=>K [] a s' H' ι' ⟨by simpa using I',R',N.st.mono n'⟩ n' hi
 | stuck=>rw[e] at K;exact K
theorem Jzi (F:FnOk X.prog X.w X.K X.mg X.base (CXI X.prog X.w) k fa fd ps (spI ce X.K ps f))(hr:Room k X.A)(hg:Gl X x)(hm:X.mg x=Za (.ref fa))(hk:W.keepIn X.K (.ref fa)=Zh)(hb:Qi X.K fd ps ds)(hd:∃vs,Vals vs ds/\∀ι H,RVs X.K ι H dvs vs) 
  (ha:PAi ce X (e::es) ma)(hlen:∀σ h xs h',ma σ h=.ok xs h'->xs.length+ds.length=ps.length)(hdb:(x==("__debug__":Str))=Zk:=by decide)(he:ZD (e::es) X.env=(Zk,ZaY e X.env)::ZD es X.env:=by rfl)(hpl:(Zbq pos (ZD es X.env)).any (·.1)=Zk:=by rfl) :
  PEi ce X (.Call (.Name x p) (e::es) [] pos) (Jn f dvs ma):=by
 intro pj s σ H ι σi h Q E N K
 refine Zaj (VX N.inv hg hm ?_ hdb)
 refine W.callWith_K (h₀:=X.base) N.inv.ok.mod.kin hk ?_ he hpl
 have K':=K
 unfold Jn at K'
 refine ha pos pj s σ H ι σi h _ E N ?_
 cases e0:ma σi h with
 | exc n h'=>rw[e0] at K';exact K'
 | stuck=>rw[e0] at K';exact K'
 | ok xs h' =>
  rw[e0] at K'
  intro us s1 H1 ι1 N1 n1 r1
  have hl:xs.length=us.length:=by
   obtain⟨vs,rv,q⟩:=r1
   rw[<- rv.length,q.length]
  exact⟨N1.inv.kIn,Yy (us:=us) F hr hb hd (by have:=hlen σi h xs h' e0;omega) N1 r1 (Kont.mono (r:=(f (xs++dvs) h')) K' n1)⟩
theorem Jw7 (F:FnOk X.prog X.w X.K X.mg X.base (CXI X.prog X.w) k fa fd ps (spI ce X.K ps f))(hr:Room k X.A)(hg:Gl X x)(hm:X.mg x=Za (.ref fa))(hk:W.keepIn X.K (.ref fa)=Zh)(hb:Qi X.K fd ps ds)(hd:∃vs,Vals vs ds/\∀ι H,RVs X.K ι H dvs vs) 
  (hlen:ds.length=ps.length)(hdb:(x==("__debug__":Str))=Zk:=by decide):PEi ce X (.Call (.Name x p) [] [] pos) (Jn f dvs Jd):=by
 intro pj s σ H ι σi h Q E N K
 refine Zaj (VX N.inv hg hm ?_ hdb)
 exact W.callWith_K0 N.inv.kIn hk (Yy (xs:=[]) F hr hb hd (by simpa using hlen) N .nil K)
theorem Jld {c:Str}{pj:PnT}{σ:L2.St}{H:Hp}{ι:List Zp}{σi:ISt}{h:IH}{s:Zm}{Q:QvT}{E:QvT}{us:List Ze}{xs:List IV}(M:Mk X.K C fa)(F:FnOk X.prog X.w X.K X.mg X.base (CXI X.prog X.w) k fa fd ps (spI ce X.K ps f))(hC:ce c=Za C)(hr:Room (k+1) X.A)(hb:Qi X.K fd ps ds)
  (hd:∃vs,Vals vs ds/\∀ι H,RVs X.K ι H dvs vs)(hlen:us.length+ds.length+1=ps.length)(N:Now ce X pj ι σi h σ H s)(r:RUs X.K ι H xs us)
  (K:Kont ce X RU pj ι σi σ H ((f (.ref h.length::(xs++dvs)) (h++[.ins c []])).bind λ r h2=>match r with|.non=>.ok (.ref h.length) h2|_=>.stuck) Q E):Zy (Z9 X.prog X.w) X.A (call (.ref C) us) Q E s:=by
 obtain⟨vs,rv,q⟩:=r
 obtain⟨dv,rd,qd⟩:=hd
 have hl1:=rv.length
 have hl2:=rd.length
 refine Zap (Jrm (Q:=λ z H'=>∀u s',Inv X pj σ H' s'->RelV z u->Q u s') (E:=λ v _ H'=>∀s',Inv X pj σ H' s'->E v s') M F hr hb rd N.inv rv (λ x dx hx hdx hne=>⟨by rw[ZC,Zx];omega,?_⟩) λ _ s' _ I' z=>z s' I')
  (λ u s' ⟨z,H',I',r',k'⟩=>k' u s' I' r') λ _ _ z=>z
 -- the new instance in the reading's heap
 obtain⟨R1,n1⟩:=N.rel.grow (o:=.own x) hdx
 have hx1:upd H dx (.own x) x=Zc:=by rw[Jq (ZI hne)];exact hx
 obtain⟨R2,n2⟩:=R1.alloc (o:=.ins C dx []) (io:=.ins c []) hx1 ⟨C,dx,[],hC,J7,rfl⟩
 have n12:=n1.trans n2
 have hat:(ι++[x])[h.length]?=Za x:=by
  rw[<- N.rel.len,ZA (Zq _)]
  simp
 refine⟨ι++[x],h++[.ins c []],.ref h.length::(xs++dvs),R2,⟨_,_,rfl,⟨x,rfl,hat⟩,(RVs.mono n12 _ _ q).append (qd _ _)⟩,?_⟩
 cases e:f (.ref h.length::(xs++dvs)) (h++[.ins c []]) with
 | ok v h' =>
  rw[e] at K
  intro z H' ι' R' n' qz
  cases v with
  | non =>
   have ez:z=.non:=qz
   subst ez
   exact⟨rfl,λ u s' I' ru=>K u s' H' ι' ⟨I',R',N.st.mono (n12.trans n')⟩ (n12.trans n') ⟨.ref x,ru,x,rfl,n'.at hat⟩⟩
  | _=>exact Zf K
 | exc n h' =>
  rw[e] at K
  exact λ a H' ι' R' n' hi s' I'=>K [] a s' H' ι' ⟨by simpa using I',R',N.st.mono (n12.trans n')⟩ (n12.trans n') hi
 | stuck=>rw[e] at K;exact Zf K
theorem Jzm {c:Str}(M:Mk X.K C fa)(F:FnOk X.prog X.w X.K X.mg X.base (CXI X.prog X.w) k fa fd ps (spI ce X.K ps f))(hC:ce c=Za C)(hr:Room (k+1) X.A)(hg:Gl X x)(hm:X.mg x=Za (.ref C))(hb:Qi X.K fd ps ds)(hd:∃vs,Vals vs ds/\∀ι H,RVs X.K ι H dvs vs)
  (ha:PAi ce X (e::es) ma)(hlen:∀σ h xs h',ma σ h=.ok xs h'->xs.length+ds.length+1=ps.length)(hdb:(x==("__debug__":Str))=Zk:=by decide)(he:ZD (e::es) X.env=(Zk,ZaY e X.env)::ZD es X.env:=by rfl)(hpl:(Zbq pos (ZD es X.env)).any (·.1)=Zk:=by rfl) :
  PEi ce X (.Call (.Name x p) (e::es) [] pos) (QR c f dvs ma):=by
 intro pj s σ H ι σi h Q E N K
 refine Zaj (VX N.inv hg hm ?_ hdb)
 refine W.callWith_K (h₀:=X.base) N.inv.ok.mod.kin M.kp ?_ he hpl
 have K':=K
 unfold QR at K'
 refine ha pos pj s σ H ι σi h _ E N ?_
 cases e0:ma σi h with
 | exc n h'=>rw[e0] at K';exact K'
 | stuck=>rw[e0] at K';exact K'
 | ok xs h' =>
  rw[e0] at K'
  intro us s1 H1 ι1 N1 n1 r1
  have hl:xs.length=us.length:=by
   obtain⟨vs,rv,q⟩:=r1
   rw[<- rv.length,q.length]
  exact⟨N1.inv.kIn,Jld (us:=us) M F hC hr hb hd (by have:=hlen σi h xs h' e0;omega) N1 r1 (Kont.mono (r:=(f (IV.ref h'.length::(xs++dvs)) (h'++[.ins c []])).bind λ r h2=>match r with|IV.non=>Res.ok (IV.ref h'.length) h2|_=>Res.stuck) K' n1)⟩
theorem Jxa (M:Mk X.K C fa)(F:FnOk X.prog X.w X.K X.mg X.base (CXI X.prog X.w) k fa fd ps (spI ce X.K ps f))(hC:ce c=Za C)(hr:Room (k+1) X.A)(hg:Gl X x)(hm:X.mg x=Za (.ref C))(hb:Qi X.K fd ps ds)(hd:∃vs,Vals vs ds/\∀ι H,RVs X.K ι H dvs vs) 
  (hlen:ds.length+1=ps.length)(hdb:(x==("__debug__":Str))=Zk:=by decide):PEi ce X (.Call (.Name x p) [] [] pos) (QR c f dvs Jd):=by
 intro pj s σ H ι σi h Q E N K
 refine Zaj (VX N.inv hg hm ?_ hdb)
 exact W.callWith_K0 N.inv.kIn M.kp (Jld (xs:=[]) M F hC hr hb hd (by simpa using hlen) N .nil K)
def Jph (ce:CeT)(X:Cx)(m:Str)(n:Nat)(disp:Str->Option ((List IV->IH->Res IV)×List IV)):Prop :=
 ∀c f dvs,disp c=Za (f,dvs)->∃(C fa:Zp)(fd:ZaH)(k:Nat)(ps:List Str)(ds:List Ze),ce c=Za C/\Cls X.K C/\Meth X.K C m fa/\FnOk X.prog X.w X.K X.mg X.base (CXI X.prog X.w) k fa fd ps (spI ce X.K ps f)/\Room k X.A/\Qi X.K fd ps ds/\(∃vs,Vals vs ds/\∀ι H,RVs X.K ι H dvs vs)/\n+ds.length+1=ps.length
theorem Jzp {n:Nat}{disp:Str->Option ((List IV->IH->Res IV)×List IV)}{pl:Sem Bool}(ho:PEi ce X o mo)(hd:Jph ce X m n disp)(ha:PAi ce X (e::es) ma)(hlen:∀σ h xs h',ma σ h=.ok xs h'->xs.length=n)
  (hst:ZD (e::es) X.env=(Zk,ZaY e X.env)::ZD es X.env:=by rfl)(hpl:(Zbq pos (ZD es X.env)).any (·.1)=Zk:=by rfl)
  (ht:ZaY (.Call (.Attribute o m apos) (e::es) [] pos) X.env=(do
   let ov<-ZaY o X.env
   Ze3 apos.atName
   let (f,first)<-Zb7 [ov] (Zd4 ov m pl)
   callWith pos f first (Zbq pos (ZD (e::es) X.env)) (Zd9 pos (Zc3 [] X.env))):=by rfl) :
  PEi ce X (.Call (.Attribute o m apos) (e::es) [] pos) (Jst m disp mo ma):=by
 intro pj s σ H ι σi h Q E N K
 refine W.methodCall_KW (pl:=pl) (ho.run N K λ v h1 u s1 H1 ι1 N1 n1 r1 K1=>?_) ht
 cases v with
 | ref i =>
  obtain⟨w,rw',a,e1,hi⟩:=r1
  subst e1
  cases rw'
  dsimp only at K1
  cases hh:h1[i]? with
  | none=>rw[hh] at K1;exact Zf K1
  | some ob =>
   cases ob with
   | ins c fs =>
    rw[hh] at K1
    dsimp only at K1
    cases hd1:disp c with
    | none=>rw[hd1] at K1;exact Zf K1
    | some fd1 =>
     obtain⟨f,dvs⟩:=fd1
     cases hl:fs.lookup m with
     | some z=>rw[hd1,hl] at K1;exact Zf K1
     | none =>
      rw[hd1,hl] at K1
      dsimp only at K1
      obtain⟨C,fa,fd,k,ps,ds,hC,cl,hm,F,hr,hb,hdv,hn⟩:=hd c f dvs hd1
      obtain⟨C',dx,vs,hC',hH,rp⟩:=N1.at hh hi
      rw[hC] at hC'
      cases hC'
      refine Jil N1.inv hH cl hm ((RPs.lookup rp).2 hl) ?_
      refine W.callWith_K (first:=[.ref a]) (h₀:=X.base) N1.inv.ok.mod.kin hm.kp ?_ hst hpl
      refine ha pos pj s1 σ H1 ι1 σi h1 _ E N1 ?_
      cases e0:ma σi h1 with
      | exc n h'=>rw[e0] at K1;exact K1
      | stuck=>rw[e0] at K1;exact K1
      | ok xs h' =>
       rw[e0] at K1
       intro us s2 H2 ι2 N2 n2 r2
       have hl:xs.length=us.length:=by
        obtain⟨vs,rv,q⟩:=r2
        rw[<- rv.length,q.length]
       have hl2:=hlen σi h1 xs h' e0
       refine⟨N2.inv.kIn,Yy (us:=.ref a::us) (xs:=.ref i::xs) F hr hb hdv (by rw[ZC];omega) N2 (.cons ⟨.ref a,rfl,a,rfl,n2.at hi⟩ r2) ?_⟩
       exact Kont.mono (r:=(f (.ref i::(xs++dvs)) h')) K1 n2
   | _=>rw[hh] at K1;exact Zf K1
 | _=>exact Zf K1
theorem Jxb {disp:Str->Option ((List IV->IH->Res IV)×List IV)}{pl:Sem Bool}(ho:PEi ce X o mo)(hd:Jph ce X m 0 disp)
  (ht:ZaY (.Call (.Attribute o m apos) [] [] pos) X.env=(do
   let ov<-ZaY o X.env
   Ze3 apos.atName
   let (f,first)<-Zb7 [ov] (Zd4 ov m pl)
   callWith pos f first (Zbq pos (ZD [] X.env)) (Zd9 pos (Zc3 [] X.env))):=by rfl) :
  PEi ce X (.Call (.Attribute o m apos) [] [] pos) (Jst m disp mo Jd):=by
 intro pj s σ H ι σi h Q E N K
 refine W.methodCall_KW (pl:=pl) (ho.run N K λ v h1 u s1 H1 ι1 N1 n1 r1 K1=>?_) ht
 cases v with
 | ref i =>
  obtain⟨w,rw',a,e1,hi⟩:=r1
  subst e1
  cases rw'
  dsimp only at K1
  cases hh:h1[i]? with
  | none=>rw[hh] at K1;exact Zf K1
  | some ob =>
   cases ob with
   | ins c fs =>
    rw[hh] at K1
    dsimp only at K1
    cases hd1:disp c with
    | none=>rw[hd1] at K1;exact Zf K1
    | some fd1 =>
     obtain⟨f,dvs⟩:=fd1
     cases hl:fs.lookup m with
     | some z=>rw[hd1,hl] at K1;exact Zf K1
     | none =>
      rw[hd1,hl] at K1
      dsimp only at K1
      obtain⟨C,fa,fd,k,ps,ds,hC,cl,hm,F,hr,hb,hdv,hn⟩:=hd c f dvs hd1
      obtain⟨C',dx,vs,hC',hH,rp⟩:=N1.at hh hi
      rw[hC] at hC'
      cases hC'
      refine Jil N1.inv hH cl hm ((RPs.lookup rp).2 hl) ?_
      exact W.callWith_K0 (first:=[.ref a]) N1.inv.kIn hm.kp (Yy (us:=[.ref a]) (xs:=[.ref i]) F hr hb hdv (by rw[ZC,Zbh];omega) N1 (.cons ⟨.ref a,rfl,a,rfl,hi⟩ .nil) K1)
   | _=>rw[hh] at K1;exact Zf K1
 | _=>exact Zf K1
def Jp (f:Str)(o:E1):E1:=λ σ h=>(o σ h).bind λ v h1=>match v with
 | .ref i=>(match h1[i]? with
  | some (.ins _ fs)=>(match fs.lookup f with
   | some x=>.ok x h1
   | none=>.stuck)
  | _=>.stuck)
 | _=>.stuck
def XX (ce:CeT)(K:W.Frag)(f:Str):Prop:=∀c C,ce c=Za C->Cls K C/\Q9 K C f
theorem J2c (ho:PEi ce X o mo)(hf:XX ce X.K fl)(hb:ZcP o fl X.env (ZaY o X.env)=ZaY o X.env:=by rfl):PEi ce X (.Attribute o fl pos) (Jp fl mo):=by
 intro pj s σ H ι σi h Q E N K
 refine Jwk hb (ho.run N K λ v h1 u s1 H1 ι1 N1 n1 r1 K1=>?_)
 cases v with
 | ref i =>
  obtain⟨w,rw',a,e1,hi⟩:=r1
  subst e1
  cases rw'
  dsimp only at K1
  cases hh:h1[i]? with
  | none=>rw[hh] at K1;exact Zf K1
  | some ob =>
   cases ob with
   | ins c fs =>
    rw[hh] at K1
    dsimp only at K1
    cases hl:fs.lookup fl with
    | none=>rw[hl] at K1;exact Zf K1
    | some z =>
     rw[hl] at K1
     obtain⟨C,dx,vs,hC,hH,rp⟩:=N1.at hh hi
     obtain⟨cl,na⟩:=hf c C hC
     obtain⟨y,hy,q⟩:=(RPs.lookup rp).1 z hl
     exact Jik N1.inv hH cl na hy λ u' s2 I2 ru=>K1 u' s2 H1 ι1 ⟨I2,N1.rel,N1.st⟩ .refl ⟨y,ru,q⟩
   | _=>rw[hh] at K1;exact Zf K1
 | _=>exact Zf K1
noncomputable def putI (f:Str)(v:IV):List (Str×IV)->List (Str×IV)
 | []=>[(f,v)]
 | (g,x)::r=>if g=f then(g,v)::r else(g,x)::putI f v r
theorem RPs.put {K:W.Frag}{ι:List Zp}{H:Hp}{fl:Str}{v:IV}{y:V}(q:RV K ι H v y):∀{fs:List (Str×IV)}{vs:List (Str×V)},RPs K ι H fs vs->RPs K ι H (putI fl v fs) (putF fl y vs)
 | [],_,h=>by
  have e:_=[]:=h
  subst e
  exact⟨y,[],rfl,q,rfl⟩
 | (g,x)::r,_,h=>by
  obtain⟨w,vr,e,qx,t⟩:=h
  subst e
  show RPs K ι H (if g=fl then(g,v)::r else(g,x)::putI fl v r) (if g=fl then(g,y)::vr else(g,w)::putF fl y vr)
  by_cases hg:g=fl
  ·rw[if_pos hg,if_pos hg]
   exact⟨y,vr,rfl,q,t⟩
  ·rw[if_neg hg,if_neg hg]
   exact⟨w,_,rfl,qx,RPs.put q t⟩
def JM (f:Str)(o e:E1):S1:=λ σ h=>rS σ (e σ h) λ v h1=>rS σ (o σ h1) λ ov h2=>match ov with
 | .ref i=>(match h2[i]? with
  | some (.ins c fs)=>if fs.length<1000 then .next σ (h2.set i (.ins c (putI f v fs))) else .stuck
  | _=>.stuck)
 | _=>.stuck
theorem J3b {fl:Str}{value:Expr}{mv:E1}{pos':Pos}(ho:PEi ce X o mo)(hv:PEi ce X value mv)(hf:XX ce X.K fl)(hs:Zdf value (Za (.Attribute o fl pos')) pos.line X.env=pure Zk:=by rfl):PS1 ce X (.Assign [.Attribute o fl pos'] value pos) (JM fl mo mv):=by
 intro pj s σ H ι σi h Q E N K
 refine plainObj_wpAny_Assign_Attribute (krun hv N K λ v h1 u s1 H1 ι1 N1 n1 r1 K1=>krun ho N1 K1 λ ov h2 w s2 H2 ι2 N2 n2 r2 K2=>?_) hs
 cases ov with
 | ref i =>
  obtain⟨w,rw',a,e1,hi⟩:=r2
  subst e1
  cases rw'
  dsimp only at K2
  cases hh:h2[i]? with
  | none=>rw[hh] at K2;exact Zf K2
  | some ob =>
   cases ob with
   | ins c fs =>
    rw[hh] at K2
    dsimp only at K2
    split at K2
    ·rename_i hz
     obtain⟨C,dx,vs,hC,hH,rp⟩:=N2.at hh hi
     obtain⟨cl,na⟩:=hf c C hC
     obtain⟨y,ry,q⟩:=r1
     refine Jiq N2.inv hH cl na (by rw[rp.length];exact hz) ry λ s3 I3=>?_
     have n3:Nxt ι2 H2 ι2 (upd H2 a (.ins C dx (putF fl y vs))):=⟨⟨[],by simp⟩,Ext.upd_mut hH (by rw[hH];exact Zat)⟩
     obtain⟨R3,_⟩:=N2.rel.write (o:=.ins C dx (putF fl y vs)) (io:=.ins c (putI fl v fs)) hi hH (by rw[hH];exact Zat) ⟨C,dx,_,hC,J7,RPs.put (RV.mono (n2.trans n3) _ _ q) (RPs.mono n3 _ _ rp)⟩
     exact K2 s3 σ _ ι2 ⟨I3,R3,N2.st.mono n3⟩ n3
    ·exact Zf K2
   | _=>rw[hh] at K2;exact Zf K2
 | _=>exact Zf K2
end
section
variable {ce:CeT}{X:Cx}{a b c:Expr}{ma mb mc:E1}{pos:Pos}
def Jf:IV->IV->IH->Res IV
 | .ref i,.int k,h=>match h[i]? with
  | some (.lst xs)=>(match atI xs k with
   | some v=>.ok v h
   | none=>.stuck)
  | _=>.stuck
 | .rol xs,.int k,h=>match atI xs k with
  | some v=>.ok v h
  | none=>.stuck
 | .tup xs,.int k,h=>match atI xs k with
  | some v=>.ok v h
  | none=>.stuck
 | .str x,.int k,h=>if x.length<=sizeLine then(match atI x.cps.toList k with
  | some c=>.ok (.str ⟨#[c]⟩) h
  | none=>.stuck) else .stuck
 | _,_,_=>.stuck
theorem Jiv {K:W.Frag}{ι:List Zp}{H:Hp}{xs:List IV}{vs:List V}{k:Int}{v:IV}(r:RVs K ι H xs vs)(e:atI xs k=Za v):∃u,atI vs k=Za u/\RV K ι H v u:=by
 unfold atI at e ⊢
 rw[r.length]
 cases q:ixN xs.length k with
 | none=>rw[q] at e;cases e
 | some j =>
  rw[q] at e
  exact r.get e
def IxI (ce:CeT)(X:Cx)(g:IV->IV->IH->Res IV):Prop :=
 ∀(value slice:Expr)(pj:PnT)(s:Zm)(σ:L2.St)(H:Hp)(ι:List Zp)(σi:ISt)(h:IH)(x y:IV)(v u:Ze)(Q:QvT)(E:QvT),Now ce X pj ι σi h σ H s->RU X.K ι H x v->RU X.K ι H y u ->
  Kont ce X RU pj ι σi σ H (g x y h) Q E->Zec slice Zk v u=operate [v,u] (ZdM v u)->Zy (Z9 X.prog X.w) X.A (Zdx value slice v u) Q E s
theorem Jns {pj:PnT}{s:Zm}{σ:L2.St}{H:Hp}{Q:QvT}{E:QvT}{r:R2}{value slice:Expr}{x y:V}{v u:Ze}(p:IxR (X.wish E) r)(I:Inv X pj σ H s)(rx:RelV x v)(ry:RelV y u)
  (k:r x y H λ z H'=>∀u s',Inv X pj σ H' s'->RelV z u->Q u s')(hs:Zec slice Zk v u=operate [v,u] (ZdM v u)):Zy (Z9 X.prog X.w) X.A (Zdx value slice v u) Q E s :=
 Zap (p value slice pj s σ H x y v u _ (I.wish E) rx ry k hs) (λ u s' ⟨_,_,I',r,q⟩=>q u s' I'.unwish r) λ _ _ z=>z
theorem x_ix:IxI ce X Jf:=by
 intro value slice pj s σ H ι σi h x y v u Q E N rx ry K hs
 obtain⟨xv,rx,qx⟩:=rx
 obtain⟨yv,ry,qy⟩:=ry
 cases y with
 | int k =>
  have e2:yv=.int k:=qy
  subst e2
  cases x with
  | ref i =>
   obtain⟨a,e1,ha⟩:=qx
   subst e1
   dsimp only[Jf] at K
   cases hi:h[i]? with
   | none=>rw[hi] at K;exact Zf K
   | some ob =>
    rw[hi] at K
    cases ob with
    | lst xs =>
     dsimp only at K
     cases hk:atI xs k with
     | none=>rw[hk] at K;exact Zf K
     | some z =>
      rw[hk] at K
      obtain⟨vs,e1,r1⟩:=N.at hi ha
      obtain⟨w,hw,qw⟩:=Jiv r1 hk
      exact Jns (Jqt (X:=X.wish E)) N.inv rx ry ⟨a,vs,k,w,rfl,rfl,SqL.of e1,hw,fin0 N K qw⟩ hs
    | _=>exact Zf K
  | rol xs =>
   obtain⟨a,vs,e1,sa,ra⟩:=qx
   subst e1
   dsimp only[Jf] at K
   cases hk:atI xs k with
   | none=>rw[hk] at K;exact Zf K
   | some z =>
    rw[hk] at K
    obtain⟨w,hw,qw⟩:=Jiv ra hk
    exact Jns (Jqt (X:=X.wish E)) N.inv rx ry ⟨a,vs,k,w,rfl,rfl,sa.sq,hw,fin0 N K qw⟩ hs
  | tup xs =>
   obtain⟨a,vs,e1,sa,ra⟩:=qx
   subst e1
   dsimp only[Jf] at K
   cases hk:atI xs k with
   | none=>rw[hk] at K;exact Zf K
   | some z =>
    rw[hk] at K
    obtain⟨w,hw,qw⟩:=Jiv ra hk
    exact Jns (Jzy (X:=X.wish E)) N.inv rx ry ⟨a,vs,k,w,rfl,rfl,sa,hw,fin0 N K qw⟩ hs
  | str x =>
   have e1:xv=.str x:=qx
   subst e1
   dsimp only[Jf] at K
   split at K
   ·rename_i hz
    cases hk:atI x.cps.toList k with
    | none=>rw[hk] at K;exact Zf K
    | some z =>
     rw[hk] at K
     exact Jns (Jzx (X:=X.wish E)) N.inv rx ry ⟨x,k,z,rfl,rfl,hz,hk,fin0 N K rfl⟩ hs
   ·exact Zf K
  | _=>exact Zf K
 | _=>cases x<;>exact Zf K
theorem i_ix (hg:IxI ce X g)(ha:PEi ce X a ma)(hb:PEi ce X b mb)(hs:Jpi b:=by intro _ _;rfl):PEi ce X (.Subscript a b pos) (Jc g ma mb):=λ pj s σ H ι σi h Q E N K =>
 Subscript_ (ha.run N K λ x h1 u s1 H1 ι1 N1 n1 r1 K1=>hb.run N1 K1 λ y h2 w s2 H2 ι2 N2 n2 r2 K2=>hg a b pj s2 σ H2 ι2 σi h2 x y u w Q E N2 (r1.mono n2) r2 K2 (hs _ _))
abbrev O1:=ISt->IH->Res (Option Int)
def J1s:REL (Option Int) Ze:=λ _ _ _ o u=>Ze8 u o
def PPi (ce:CeT)(X:Cx)(e:Option Expr)(m:O1):Prop:=PX ce X J1s (evalPart e X.env) m
noncomputable def QU:O1:=λ _ h=>.ok Zc h
def Qg (e:E1):O1:=λ σ h=>(e σ h).bind λ v h1=>match v with
 | .int i=>.ok (Za i) h1
 | _=>.stuck
theorem J0o:PPi ce X Zc QU:=by
 intro pj s σ H ι σi h Q E N K
 rw[evalPart_none]
 exact Zw (K _ s H ι N .refl .none)
theorem J0p (ha:PEi ce X a ma):PPi ce X (Za a) (Qg ma):=by
 intro pj s σ H ι σi h Q E N K
 rw[evalPart_some]
 refine ha.run N K λ x h1 u s1 H1 ι1 N1 n1 r1 K1=>?_
 cases x with
 | int i =>
  obtain⟨w,rw',q⟩:=r1
  have e:w=.int i:=q
  subst e
  obtain⟨t,rfl⟩:=rw'
  exact K1 _ s1 H1 ι1 N1 .refl (.int i t)
 | _=>exact Zf K1
def cutI {α:Type}(xs:List α)(lo hi:Option Int):List α:=(xs.drop (HT.sIx xs.length 0 lo)).take (HT.sIx xs.length xs.length hi-HT.sIx xs.length 0 lo)
def slI:IV->Option Int->Option Int->IH->Res IV
 | .ref i,lo,hi,h=>match h[i]? with
  | some (.lst xs)=>.ok (.ref h.length) (h++[.lst (cutI xs lo hi)])
  | _=>.stuck
 | .rol xs,lo,hi,h=>.ok (.ref h.length) (h++[.lst (cutI xs lo hi)])
 | _,_,_,_=>.stuck
theorem RVs.cut {K:W.Frag}{ι:List Zp}{H:Hp}{xs:List IV}{vs:List V}(r:RVs K ι H xs vs)(lo hi:Option Int):RVs K ι H (cutI xs lo hi) (cutV vs lo hi):=by
 unfold cutI cutV
 rw[r.length]
 exact(r.drop _).take _
def eSl (f:IV->Option Int->Option Int->IH->Res IV)(e:E1)(lo hi:O1):E1:=λ σ h=>(e σ h).bind λ x h1=>(lo σ h1).bind λ l h2=>(hi σ h2).bind λ u h3=>f x l u h3
def SlI (ce:CeT)(X:Cx)(g:IV->Option Int->Option Int->IH->Res IV):Prop :=
 ∀(pj:PnT)(s:Zm)(σ:L2.St)(H:Hp)(ι:List Zp)(σi:ISt)(h:IH)(x:IV)(v vl vu:Ze)(lo hi:Option Int)(sl:Zp)(Q:QvT)(E:QvT),Now ce X pj ι σi h σ H s->RU X.K ι H x v->s.heap.IsSliceOf sl vl vu .none->Ze8 vl lo->Ze8 vu hi ->
  Kont ce X RU pj ι σi σ H (g x lo hi h) Q E->∃T id,typeLookup (.type T) "__getitem__"=pure (Za (.builtin id))/\s.TypeIs v T/\Zy (Z9 X.prog X.w) X.A (ZdM v (.ref sl)) Q E s
theorem Jv8 {pj:PnT}{s:Zm}{σ:L2.St}{H:Hp}{Q:QvT}{E:QvT}{r:V->Option Int->Option Int->Hp->VK->Prop}{x:V}{v vl vu:Ze}{lo hi:Option Int}{sl:Zp}(p:SlR (X.wish E) r)(I:Inv X pj σ H s)(rx:RelV x v)
  (hs:s.heap.IsSliceOf sl vl vu .none)(pl:Ze8 vl lo)(pu:Ze8 vu hi)(k:r x lo hi H λ z H'=>∀u s',Inv X pj σ H' s'->RelV z u->Q u s') :
  ∃T id,typeLookup (.type T) "__getitem__"=pure (Za (.builtin id))/\s.TypeIs v T/\Zy (Z9 X.prog X.w) X.A (ZdM v (.ref sl)) Q E s:=by
 obtain⟨T,id,h1,h2,h3⟩:=p pj s σ H x v vl vu lo hi sl _ (I.wish E) rx hs pl pu k
 exact⟨T,id,h1,h2,Zap h3 (λ u s' ⟨_,_,I',r,q⟩=>q u s' I'.unwish r) λ _ _ z=>z⟩
theorem Jxc {g:IV->Option Int->Option Int->IH->Res IV}{lo hi:Option Expr}{ml mh:O1}{p2:Pos}(hr:SlI ce X g)(he:PEi ce X a ma)(hl:PPi ce X lo ml)(hu:PPi ce X hi mh):PEi ce X (.Subscript a (.Slice lo hi Zc p2) pos) (eSl g ma ml mh):=by
 intro pj s σ H ι σi h Q E N K
 refine Subscript_ (he.run N K λ x h1 v s1 H1 ι1 N1 n1 r1 K1=>?_)
 refine wpAny_Slice (PX.run hl N1 K1 λ l h2 vl s2 H2 ι2 N2 n2 pl K2=>PX.run hu N2 K2 λ u h3 vu s3 H3 ι3 N3 n3 pu K3=>?_)
 rw[evalPart_none]
 refine Zw ?_
 have I4:Inv X pj σ H3 { s3 with heap:=s3.heap.push { cls:=.type "slice",data:=.fields #[vl,vu,.none] } }:=N3.inv.kept (t':=s3.toks) λ b ob q=>Zg _ q
 obtain⟨T,id,hT,ht,hg⟩:=hr pj { s3 with heap:=s3.heap.push { cls:=.type "slice",data:=.fields #[vl,vu,.none] } } σ H3 ι3 σi h3 x v vl vu l u s3.heap.objs.size Q E ⟨I4,N3.rel,N3.st⟩ ((r1.mono n2).mono n3) (Heap.IsSliceOf.new ..) pl pu K3
 show Zy (Z9 X.prog X.w) X.A (Zdx a (.Slice lo hi Zc p2) v (.ref s3.heap.objs.size)) Q E { s3 with heap:=s3.heap.push { cls:=.type "slice",data:=.fields #[vl,vu,.none] } }
 exact tail_any (ops:=[.ref s3.heap.objs.size,v]) ht hT hg (by with_unfolding_all rfl)
def eCB (f:List IV->IH->Res IV)(a:A1):E1:=λ σ h=>(a σ h).bind f
variable {es:List Expr}{mr:A1}{x:Str}{p:Pos}{id T:String}{g:List IV->IH->Res IV}
theorem VG (hc:Qx ce X (.builtin id) g)(hg:Gl X x)(hm:X.mg x=Zc)(hv:Zck x=Za (.builtin id))(ha:PAi ce X (a::es) mr)(hn:x≠"__name__":=by decide)(hdb:(x==("__debug__":Str))=Zk:=by decide) 
  (he:ZD (a::es) X.env=(Zk,ZaY a X.env)::ZD es X.env:=by rfl)(hpl:(Zbq pos (ZD es X.env)).any (·.1)=Zk:=by rfl):PEi ce X (.Call (.Name x p) (a::es) [] pos) (eCB g mr):=λ pj s σ H ι σi h Q E N K =>
 Zaj (Qr N.inv hg hm hv (ZbJ ((ha pos).run N K λ xs h1 us s1 H1 ι1 N1 n1 r1 K1=>hc pj s1 σ H1 ι1 σi h1 xs us Q E N1 r1 K1) he hpl) hn hdb)
theorem Jqk (hc:Qx ce X (.type T) g)(hg:Gl X x)(hm:X.mg x=Zc)(hv:Zck x=Za (.type T))(ha:PAi ce X (a::es) mr)(hn:x≠"__name__":=by decide)(hdb:(x==("__debug__":Str))=Zk:=by decide) 
  (he:ZD (a::es) X.env=(Zk,ZaY a X.env)::ZD es X.env:=by rfl)(hpl:(Zbq pos (ZD es X.env)).any (·.1)=Zk:=by rfl):PEi ce X (.Call (.Name x p) (a::es) [] pos) (eCB g mr):=λ pj s σ H ι σi h Q E N K =>
 Zaj (Qr N.inv hg hm hv (ZaB ((ha pos).run N K λ xs h1 us s1 H1 ι1 N1 n1 r1 K1=>hc pj s1 σ H1 ι1 σi h1 xs us Q E N1 r1 K1) he hpl) hn hdb)
def on1 (f:IV->IH->Res IV):List IV->IH->Res IV
 | [x],h=>f x h
 | _,_=>.stuck
def on2 (f:IV->IV->IH->Res IV):List IV->IH->Res IV
 | [x,y],h=>f x y h
 | _,_=>.stuck
theorem RVs.one_of {K:W.Frag}{ι:List Zp}{H:Hp}{x:IV}{vs:List V}(r:RVs K ι H [x] vs):∃v,vs=[v]/\RV K ι H x v:=by
 obtain⟨v,r',e,q,q2⟩:=r
 have e2:r'=[]:=q2
 subst e2
 exact⟨v,e,q⟩
theorem RVs.two_of {K:W.Frag}{ι:List Zp}{H:Hp}{x y:IV}{vs:List V}(r:RVs K ι H [x,y] vs):∃v w,vs=[v,w]/\RV K ι H x v/\RV K ι H y w:=by
 obtain⟨v,r',e,q,r2⟩:=r
 obtain⟨w,e2,q2⟩:=r2.one_of
 subst e2
 exact⟨v,w,e,q,q2⟩
theorem VD {fv:Ze}{f:IV->IH->Res IV}(hh:∀(pj:PnT)(s:Zm)(σ:L2.St)(H:Hp)(ι:List Zp)(σi:ISt)(h:IH)(x:IV)(xv:V)(u:Ze)(Q:QvT)(E:QvT),Now ce X pj ι σi h σ H s->RelV xv u->RV X.K ι H x xv ->
  Kont ce X RU pj ι σi σ H (f x h) Q E->Zy (Z9 X.prog X.w) X.A (call fv [u]) Q E s):Qx ce X fv (on1 f):=by
 intro pj s σ H ι σi h xs us Q E N r K
 obtain⟨vs,rv,q⟩:=r
 match xs,K with
 | [x],K =>
  obtain⟨v,e,qx⟩:=q.one_of
  subst e
  obtain⟨u,rfl,ru⟩:=QN rv
  exact hh pj s σ H ι σi h x v u Q E N ru qx K
 | [],K=>exact Zf K
 | _::_::_,K=>exact Zf K
noncomputable def lenI:IV->IH->Res IV
 | .str x,h=>if x.length<=sizeLine then .ok (.int x.length) h else .stuck
 | .tup xs,h=>.ok (.int xs.length) h
 | .rol xs,h=>.ok (.int xs.length) h
 | .ref i,h=>match h[i]? with
  | some (.lst xs)=>.ok (.int xs.length) h
  | _=>.stuck
 | _,_=>.stuck
theorem J1w:Qx ce X (.builtin "len") (on1 lenI):=VD λ pj s σ H ι σi h x xv u Q E N ru qx K=>by
 cases x with
 | str y =>
  have e:xv=.str y:=qx
  subst e
  dsimp only[lenI] at K
  split at K
  ·rename_i hz
   exact QY (Jf7 (X:=X.wish E)) N.inv (.cons ru .nil) ⟨_,_,rfl,⟨hz,rfl⟩,fin0 N K rfl⟩
  ·exact Zf K
 | tup xs =>
  obtain⟨a,vs,e1,sa,ra⟩:=qx
  subst e1
  exact QY (Jf7 (X:=X.wish E)) N.inv (.cons ru .nil) ⟨_,xs.length,rfl,.inr ⟨vs,sa,ra.length.symm⟩,fin0 N K rfl⟩
 | rol xs =>
  obtain⟨a,vs,e1,sa,ra⟩:=qx
  subst e1
  exact QY (Jf7 (X:=X.wish E)) N.inv (.cons ru .nil) ⟨_,xs.length,rfl,.inl ⟨vs,sa.sq,ra.length.symm⟩,fin0 N K rfl⟩
 | ref i =>
  obtain⟨a,e1,ha⟩:=qx
  subst e1
  dsimp only[lenI] at K
  cases hi:h[i]? with
  | none=>rw[hi] at K;exact Zf K
  | some ob =>
   rw[hi] at K
   cases ob with
   | lst xs =>
    obtain⟨vs,e1,r1⟩:=N.at hi ha
    exact QY (Jf7 (X:=X.wish E)) N.inv (.cons ru .nil) ⟨_,xs.length,rfl,.inl ⟨vs,SqL.of e1,r1.length.symm⟩,fin0 N K rfl⟩
   | _=>exact Zf K
 | _=>exact Zf K
end
def ALen (n:Nat)(m:A1):Prop:=∀σ h xs h',m σ h=.ok xs h'->xs.length=n
theorem Jsj:ALen 0 Jd:=λ _ _ xs _ e=>by
 unfold Jd at e
 cases e
 rfl
theorem Jpk (hr:ALen n r):ALen (n+1) (Jb e r):=λ σ h xs h' q=>by
 unfold Jb at q
 cases e1:e σ h with
 | ok x h1 =>
  rw[e1] at q
  change (r σ h1).bind (λ xs h2=>.ok (x::xs) h2)=_ at q
  cases e2:r σ h1 with
  | ok ys h2 =>
   rw[e2] at q
   cases q
   rw[ZC,hr σ h1 ys _ e2]
  | exc n h2=>rw[e2] at q;cases q
  | stuck=>rw[e2] at q;cases q
 | exc n h1=>rw[e1] at q;cases q
 | stuck=>rw[e1] at q;cases q
def XJ (K:W.Frag)(x:Str)(f:List IV->IH->Res IV):Sp:=λ vs H Q E=>∀ce,spI ce K [x] f vs H Q E
theorem Jsx {P:ZB}{w:Zab}{K:W.Frag}{mg:Str->Option Ze}{base:Zax}{k:Nat}{fa:Zp}{fd:ZaH}{x:Str}{f:List IV->IH->Res IV}{ce:CeT}(F:FnOk P w K mg base (CXI P w) k fa fd [x] (spI ce K [x] f)) :
  FnOk P w K mg base (CXI P w) k fa fd [x] (XJ K x f):=F.imp λ _ _ _ _ h=>h ce
noncomputable def toD (h:IH):Nat->IV->Option Zdm
 | 0=>λ v=>match v with
  | .non=>Za .none
  | .bl b=>Za (.bool b)
  | .int i=>Za (.int i)
  | .str x=>Za (.str x)
  | _=>Zc
 | n+1=>λ v=>match v with
  | .non=>Za .none
  | .bl b=>Za (.bool b)
  | .int i=>Za (.int i)
  | .str x=>Za (.str x)
  | .tup xs=>(xs.mapM (toD h n)).map .tuple
  | .rol xs=>(xs.mapM (toD h n)).map .list
  | .ref i=>match h[i]? with
   | some (.lst xs)=>(xs.mapM (toD h n)).map .list
   | _=>Zc
section
variable {ce:CeT}{X:Cx}
theorem Jca {n:Nat}(N:Now ce X pj ι σi h σ H s) 
  (ih:∀(v:IV)(d:Zdm)(x:V)(u:Ze),toD h n v=Za d->RV X.K ι H v x->RelV x u->∃as,Reads s.heap u d as) :
  ∀(xs:List IV)(ds:List Zdm)(vs:List V)(us:List Ze),xs.mapM (toD h n)=Za ds->RVs X.K ι H xs vs->Vals vs us->∃as,ReadsAll s.heap us ds as
 | [],ds,vs,us,e,q,r=>by
  have e1:vs=[]:=q
  subst e1
  cases r
  simp at e
  subst e
  exact⟨_,.nil⟩
 | x::xs,ds,vs,us,e,q,r=>by
  obtain⟨v,vr,e1,q1,q2⟩:=q
  subst e1
  cases r with
  | cons r1 r2 =>
   rw[Zcf] at e
   cases e2:toD h n x with
   | none=>rw[e2] at e;cases e
   | some d =>
    rw[e2] at e
    cases e3:xs.mapM (toD h n) with
    | none=>rw[e3] at e;cases e
    | some dr =>
     rw[e3] at e
     cases e
     obtain⟨as,h1⟩:=ih x d v _ e2 q1 r1
     obtain⟨bs,h2⟩:=Jca N ih xs dr vr _ e3 q2 r2
     exact⟨_,.cons h1 h2⟩
theorem Vk (N:Now ce X pj ι σi h σ H s):∀(n:Nat)(v:IV)(d:Zdm)(x:V)(u:Ze),toD h n v=Za d->RV X.K ι H v x->RelV x u->∃as,Reads s.heap u d as:=by
 have flat:∀(v:IV)(d:Zdm)(x:V)(u:Ze),toD h 0 v=Za d->RV X.K ι H v x->RelV x u->∃as,Reads s.heap u d as:=by
  intro v d x u e q r
  cases v with
  | non=>cases e;have e1:x=.non:=q;subst e1;cases r;exact⟨_,.none⟩
  | bl b=>cases e;have e1:x=.bl b:=q;subst e1;cases r;exact⟨_,.bool b⟩
  | int i=>cases e;have e1:x=.int i:=q;subst e1;obtain⟨t,rfl⟩:=r;exact⟨_,.int i t⟩
  | str z=>cases e;have e1:x=.str z:=q;subst e1;obtain⟨t,rfl⟩:=r;exact⟨_,.str z t⟩
  | _=>cases e
 intro n
 induction n with
 | zero=>exact flat
 | succ n ih =>
  intro v d x u e q r
  cases v with
  | non=>exact flat .non d x u e q r
  | bl b=>exact flat (.bl b) d x u e q r
  | int i=>exact flat (.int i) d x u e q r
  | str z=>exact flat (.str z) d x u e q r
  | tup xs =>
   obtain⟨a,vs,e1,sa,ra⟩:=q
   subst e1
   cases r
   obtain⟨ds,e2,rfl⟩:=ZF.mp (show(xs.mapM (toD h n)).map Ze4=Za d from e)
   obtain⟨its,rv,⟨o,ho,hc,m,hd⟩,hz⟩:=N.inv.tuple sa
   obtain⟨as,h1⟩:=Jca N ih xs ds vs its e2 ra rv
   exact⟨_,.tuple ho hc hd h1⟩
  | rol xs =>
   obtain⟨a,vs,e1,sa,ra⟩:=q
   subst e1
   cases r
   obtain⟨ds,e2,rfl⟩:=ZF.mp (show(xs.mapM (toD h n)).map ZcR=Za d from e)
   obtain⟨its,rv,⟨o,m,ho,hc,_,hd⟩,hz⟩:=N.inv.list sa.sq
   obtain⟨as,h1⟩:=Jca N ih xs ds vs its e2 ra rv
   exact⟨_,.list ho hc hd h1⟩
  | ref i =>
   obtain⟨a,e1,ha⟩:=q
   subst e1
   cases r
   have e':(match h[i]? with|some (.lst xs)=>(xs.mapM (toD h n)).map ZcR|_=>Zc)=Za d:=e
   cases hi:h[i]? with
   | none=>rw[hi] at e';cases e'
   | some ob =>
    rw[hi] at e'
    cases ob with
    | lst xs =>
     obtain⟨ds,e2,rfl⟩:=ZF.mp e'
     obtain⟨vs,e1,r1⟩:=N.at hi ha
     obtain⟨its,rv,⟨o,m,ho,hc,_,hd⟩,hz⟩:=N.inv.list (SqL.of e1)
     obtain⟨as,h1⟩:=Jca N ih xs ds vs its e2 r1 rv
     exact⟨_,.list ho hc hd h1⟩
    | _=>cases e'
theorem Jb9 (hf:∀v d,f v=Za d->d.depth<=n):∀(xs:List IV)(ds:List Zdm),xs.mapM f=Za ds->PyData.depthAll ds<=n
 | [],ds,e=>by simp at e;subst e;exact ZY _
 | x::xs,ds,e=>by
  rw[Zcf] at e
  cases e2:f x with
  | none=>rw[e2] at e;cases e
  | some d =>
   rw[e2] at e
   cases e3:xs.mapM f with
   | none=>rw[e3] at e;cases e
   | some dr =>
    rw[e3] at e
    cases e
    have h1:=hf x d e2
    have h2:=Jb9 hf xs dr e3
    show max d.depth (PyData.depthAll dr)<=n
    omega
theorem Jfa:∀(n:Nat)(v:IV)(d:Zdm),toD h n v=Za d->d.depth<=n:=by
 intro n
 induction n with
 | zero =>
  intro v d e
  cases v<;>cases e<;>exact Zq _
 | succ n ih =>
  intro v d e
  cases v with
  | non=>cases e;exact ZY _
  | bl b=>cases e;exact ZY _
  | int i=>cases e;exact ZY _
  | str z=>cases e;exact ZY _
  | tup xs =>
   obtain⟨ds,e2,rfl⟩:=ZF.mp (show(xs.mapM (toD h n)).map Ze4=Za d from e)
   exact ZcK (Jb9 ih xs ds e2)
  | rol xs =>
   obtain⟨ds,e2,rfl⟩:=ZF.mp (show(xs.mapM (toD h n)).map ZcR=Za d from e)
   exact ZcK (Jb9 ih xs ds e2)
  | ref i =>
   have e':(match h[i]? with|some (.lst xs)=>(xs.mapM (toD h n)).map ZcR|_=>Zc)=Za d:=e
   cases hi:h[i]? with
   | none=>rw[hi] at e';cases e'
   | some ob =>
    rw[hi] at e'
    cases ob with
    | lst xs =>
     obtain⟨ds,e2,rfl⟩:=ZF.mp e'
     exact ZcK (Jb9 ih xs ds e2)
    | _=>cases e'
noncomputable def Xe:IV->IV->Option Bool
 | .non,.non=>Za Zh
 | .int i,.int j=>Za (decide (i=j))
 | .str i,.str j=>Za (decide (i=j))
 | .bl i,.bl j=>Za (decide (i=j))
 | _,_=>Zc
noncomputable def Vg (x y:IV)(h:IH):Option Bool:=match toD h 6 x,toD h 6 y with
 | some a,Za b=>if a.canLay0=Zh/\b.canLay0=Zh then Za (ZcM a b) else Zc
 | _,_=>Zc
noncomputable def cEq (x y:IV)(h:IH):Res IV:=match Xe x y with
 | some b=>.ok (.bl b) h
 | none=>match Vg x y h with
  | some b=>.ok (.bl b) h
  | none=>.stuck
noncomputable def cNe (x y:IV)(h:IH):Res IV:=match Xe x y with
 | some b=>.ok (.bl (!b)) h
 | none=>match Vg x y h with
  | some b=>.ok (.bl (!b)) h
  | none=>.stuck
theorem Jm5 (e:Vg x y h=Za b):∃da db,toD h 6 x=Za da/\toD h 6 y=Za db/\da.canLay0=Zh/\db.canLay0=Zh/\b=ZcM da db:=by
 unfold Vg at e
 cases e1:toD h 6 x with
 | none=>rw[e1] at e;cases e
 | some da =>
  cases e2:toD h 6 y with
  | none=>rw[e1,e2] at e;cases e
  | some db =>
   rw[e1,e2] at e
   dsimp only at e
   split at e
   ·rename_i hz
    cases e
    exact⟨da,db,rfl,rfl,hz.1,hz.2,rfl⟩
   ·cases e
theorem Jls {K:W.Frag}{ι:List Zp}{H:Hp}{x y:IV}{b:Bool}{xv yv:V}(e:Xe x y=Za b)(qx:RV K ι H x xv)(qy:RV K ι H y yv):scal xv yv=Zh/\decide (xv=yv)=b:=by
 cases x with
 | non =>
  cases y with
  | non=>cases e;cases (show xv=.non from qx);cases (show yv=.non from qy);exact⟨rfl,rfl⟩
  | _=>cases e
 | int i =>
  cases y with
  | int j=>cases e;cases (show xv=.int i from qx);cases (show yv=.int j from qy);exact⟨rfl,by simp⟩
  | _=>cases e
 | str i =>
  cases y with
  | str j=>cases e;cases (show xv=.str i from qx);cases (show yv=.str j from qy);exact⟨rfl,by simp⟩
  | _=>cases e
 | bl i =>
  cases y with
  | bl j=>cases e;cases (show xv=.bl i from qx);cases (show yv=.bl j from qy);exact⟨rfl,by simp⟩
  | _=>cases e
 | _=>cases y<;>cases e
theorem o_eq (hu:X.A.units+64<Zep):OpI ce X (Zav .Eq) cEq:=by
 intro pj s σ H ι σi h x y v u Q E N rx ry K
 obtain⟨xv,rx,qx⟩:=rx
 obtain⟨yv,ry,qy⟩:=ry
 unfold cEq at K
 cases es:Xe x y with
 | some b =>
  rw[es] at K
  obtain⟨h1,h2⟩:=Jls es qx qy
  exact Qb (J2u (X:=X.wish E)) N.inv rx ry ⟨h1,by rw[h2];exact fin0 N K rfl⟩
 | none =>
  rw[es] at K
  dsimp only at K
  cases ed:Vg x y h with
  | none=>rw[ed] at K;exact Zf K
  | some b =>
   rw[ed] at K
   obtain⟨da,db,e1,e2,c1,c2,rfl⟩:=Jm5 ed
   obtain⟨as,r1⟩:=Vk N 6 x da xv v e1 qx rx
   obtain⟨bs,r2⟩:=Vk N 6 y db yv u e2 qy ry
   have d1:=Jfa 6 x da e1
   exact PySem.SeqAt.compareEq_reads r1 r2 c1 c2 (by omega) (fin0 N K rfl _ s N.inv rfl)
theorem o_ne (hu:X.A.units+64<Zep):OpI ce X (Zav .NotEq) cNe:=by
 intro pj s σ H ι σi h x y v u Q E N rx ry K
 obtain⟨xv,rx,qx⟩:=rx
 obtain⟨yv,ry,qy⟩:=ry
 unfold cNe at K
 cases es:Xe x y with
 | some b =>
  rw[es] at K
  obtain⟨h1,h2⟩:=Jls es qx qy
  exact Qb (J2z (X:=X.wish E)) N.inv rx ry ⟨h1,by rw[h2];exact fin0 N K rfl⟩
 | none =>
  rw[es] at K
  dsimp only at K
  cases ed:Vg x y h with
  | none=>rw[ed] at K;exact Zf K
  | some b =>
   rw[ed] at K
   obtain⟨da,db,e1,e2,c1,c2,rfl⟩:=Jm5 ed
   obtain⟨as,r1⟩:=Vk N 6 x da xv v e1 qx rx
   obtain⟨bs,r2⟩:=Vk N 6 y db yv u e2 qy ry
   have d1:=Jfa 6 x da e1
   exact PySem.SeqAt.compareNe_reads r1 r2 c1 c2 (by omega) (fin0 N K rfl _ s N.inv rfl)
def inI (x c:IV)(h:IH):Option Bool:=match toD h 6 c,toD h 6 x with
 | some (.list ds),Za d=>if ZX ds=Zh/\d.canLay0=Zh then Za (ds.any λ y=>ZcM y d) else Zc
 | some (.tuple ds),Za d=>if ZX ds=Zh/\d.canLay0=Zh then Za (ds.any λ y=>ZcM y d) else Zc
 | _,_=>Zc
noncomputable def cIn (x c:IV)(h:IH):Res IV:=match inI x c h with
 | some b=>.ok (.bl b) h
 | none=>.stuck
def Jpy (x c:IV)(h:IH):Res IV:=match inI x c h with
 | some b=>.ok (.bl (!b)) h
 | none=>.stuck
theorem Jvh (e:inI x c h=Za b):∃ds d,(toD h 6 c=Za (.list ds)∨toD h 6 c=Za (.tuple ds))/\toD h 6 x=Za d/\ZX ds=Zh/\d.canLay0=Zh/\b=ds.any λ y=>ZcM y d:=by
 unfold inI at e
 cases e1:toD h 6 c with
 | none=>rw[e1] at e;cases e
 | some dc =>
  cases e2:toD h 6 x with
  | none=>rw[e1,e2] at e;cases dc<;>cases e
  | some d =>
   rw[e1,e2] at e
   cases dc with
   | list ds =>
    dsimp only at e
    split at e
    ·rename_i hz;cases e;exact⟨ds,d,.inl rfl,rfl,hz.1,hz.2,rfl⟩
    ·cases e
   | tuple ds =>
    dsimp only at e
    split at e
    ·rename_i hz;cases e;exact⟨ds,d,.inr rfl,rfl,hz.1,hz.2,rfl⟩
    ·cases e
   | _=>cases e
theorem o_in (hu:X.A.units+64<Zep):OpI ce X (Zav .In) cIn:=by
 intro pj s σ H ι σi h x y v u Q E N rx ry K
 obtain⟨xv,rx,qx⟩:=rx
 obtain⟨yv,ry,qy⟩:=ry
 unfold cIn at K
 cases ei:inI x y h with
 | none=>rw[ei] at K;exact Zf K
 | some b =>
  rw[ei] at K
  obtain⟨ds,d,hc,e2,c1,c2,rfl⟩:=Jvh ei
  obtain⟨bs,r2⟩:=Vk N 6 x d xv v e2 qx rx
  have d2:=Jfa 6 x d e2
  rcases hc with e1|e1
  ·obtain⟨as,r1⟩:=Vk N 6 y _ yv u e1 qy ry
   exact PySem.SeqAt.in_list_reads r1 r2 c1 c2 (by omega) (fin0 N K rfl _ s N.inv rfl)
  ·obtain⟨as,r1⟩:=Vk N 6 y _ yv u e1 qy ry
   exact PySem.SeqAt.in_tuple_reads r1 r2 c1 c2 (by omega) (fin0 N K rfl _ s N.inv rfl)
theorem Jxr (hu:X.A.units+64<Zep):OpI ce X (Zav .NotIn) Jpy:=by
 intro pj s σ H ι σi h x y v u Q E N rx ry K
 obtain⟨xv,rx,qx⟩:=rx
 obtain⟨yv,ry,qy⟩:=ry
 unfold Jpy at K
 cases ei:inI x y h with
 | none=>rw[ei] at K;exact Zf K
 | some b =>
  rw[ei] at K
  obtain⟨ds,d,hc,e2,c1,c2,rfl⟩:=Jvh ei
  obtain⟨bs,r2⟩:=Vk N 6 x d xv v e2 qx rx
  have d2:=Jfa 6 x d e2
  rcases hc with e1|e1
  ·obtain⟨as,r1⟩:=Vk N 6 y _ yv u e1 qy ry
   exact PySem.SeqAt.notIn_list_reads r1 r2 c1 c2 (by omega) (fin0 N K rfl _ s N.inv rfl)
  ·obtain⟨as,r1⟩:=Vk N 6 y _ yv u e1 qy ry
   exact PySem.SeqAt.notIn_tuple_reads r1 r2 c1 c2 (by omega) (fin0 N K rfl _ s N.inv rfl)
noncomputable def isI:IV->IV->Option Bool
 | .non,.non=>Za Zh
 | .bl a,.bl b=>Za (a==b)
 | .bl _,.non=>Za Zk
 | .int _,.non=>Za Zk
 | .str _,.non=>Za Zk
 | .tup _,.non=>Za Zk
 | .rol _,.non=>Za Zk
 | .ref _,.non=>Za Zk
 | .non,.bl _=>Za Zk
 | .int _,.bl _=>Za Zk
 | .str _,.bl _=>Za Zk
 | .tup _,.bl _=>Za Zk
 | .rol _,.bl _=>Za Zk
 | .ref _,.bl _=>Za Zk
 | _,_=>Zc
noncomputable def cIs (x y:IV)(h:IH):Res IV:=match isI x y with
 | some b=>.ok (.bl b) h
 | none=>.stuck
noncomputable def Jm1 (x y:IV)(h:IH):Res IV:=match isI x y with
 | some b=>.ok (.bl (!b)) h
 | none=>.stuck
theorem Jvi {K:W.Frag}{ι:List Zp}{H:Hp}{x y:IV}{b:Bool}{v u:Ze}(e:isI x y=Za b)(rx:RU K ι H x v)(ry:RU K ι H y u):plainIs v u=Zh/\(v==u)=b:=by
 obtain⟨xv,rx,qx⟩:=rx
 obtain⟨yv,ry,qy⟩:=ry
 cases y with
 | non =>
  cases (show yv=.non from qy)
  cases ry
  cases x with
  | non=>cases e;cases (show xv=.non from qx);cases rx;exact⟨rfl,rfl⟩
  | bl c=>cases e;cases (show xv=.bl c from qx);cases rx;exact⟨rfl,rfl⟩
  | int c=>cases e;cases (show xv=.int c from qx);obtain⟨t,rfl⟩:=rx;exact⟨rfl,rfl⟩
  | str c=>cases e;cases (show xv=.str c from qx);obtain⟨t,rfl⟩:=rx;exact⟨rfl,rfl⟩
  | tup c=>cases e;obtain⟨a,vs,rfl,_⟩:=qx;cases rx;exact⟨rfl,rfl⟩
  | rol c=>cases e;obtain⟨a,vs,rfl,_⟩:=qx;cases rx;exact⟨rfl,rfl⟩
  | ref c=>cases e;obtain⟨a,rfl,_⟩:=qx;cases rx;exact⟨rfl,rfl⟩
 | bl d =>
  cases (show yv=.bl d from qy)
  cases ry
  cases x with
  | non=>cases e;cases (show xv=.non from qx);cases rx;exact⟨rfl,rfl⟩
  | bl c=>cases e;cases (show xv=.bl c from qx);cases rx;cases c<;>cases d<;>exact⟨rfl,rfl⟩
  | int c=>cases e;cases (show xv=.int c from qx);obtain⟨t,rfl⟩:=rx;exact⟨rfl,rfl⟩
  | str c=>cases e;cases (show xv=.str c from qx);obtain⟨t,rfl⟩:=rx;exact⟨rfl,rfl⟩
  | tup c=>cases e;obtain⟨a,vs,rfl,_⟩:=qx;cases rx;exact⟨rfl,rfl⟩
  | rol c=>cases e;obtain⟨a,vs,rfl,_⟩:=qx;cases rx;exact⟨rfl,rfl⟩
  | ref c=>cases e;obtain⟨a,rfl,_⟩:=qx;cases rx;exact⟨rfl,rfl⟩
 | _=>cases x<;>cases e
theorem o_is:OpI ce X (Zav .Is) cIs:=by
 intro pj s σ H ι σi h x y v u Q E N rx ry K
 unfold cIs at K
 cases ei:isI x y with
 | none=>rw[ei] at K;exact Zf K
 | some b =>
  rw[ei] at K
  obtain⟨h1,h2⟩:=Jvi ei rx ry
  exact wpAny_is_plain h1 (by rw[h2];exact fin0 N K rfl _ s N.inv rfl)
theorem Jxq:OpI ce X (Zav .IsNot) Jm1:=by
 intro pj s σ H ι σi h x y v u Q E N rx ry K
 unfold Jm1 at K
 cases ei:isI x y with
 | none=>rw[ei] at K;exact Zf K
 | some b =>
  rw[ei] at K
  obtain⟨h1,h2⟩:=Jvi ei rx ry
  exact wpAny_isNot_plain h1 (by rw[h2];exact fin0 N K rfl _ s N.inv rfl)
inductive Ty where
 | non|bl|int|str|lst|tup|dct|ins (c:Str)|exc (c:Str)
noncomputable def tyI:IV->IH->Option Ty
 | .non,_=>Za .non
 | .bl _,_=>Za .bl
 | .int _,_=>Za .int
 | .str _,_=>Za .str
 | .tup _,_=>Za .tup
 | .rol _,_=>Za .lst
 | .ref i,h=>match h[i]? with
  | some (.lst _)=>Za .lst
  | some (.dct _)=>Za .dct
  | some (.ins c _)=>Za (.ins c)
  | _=>Zc
structure ClsI (K:W.Frag)(C:Zp):Prop where
 cl:Cls K C
 ha:W.findIn K (.ref C) "__class__"=Za (Za (.builtin "object.__class__"))
 hn:W.specialIn K (.builtin "object.__class__") "__get__"=Za (Za (.builtin "getset_descriptor.__get__"))
 htk:W.takesIn K (.builtin "object.__class__")=Za Zh
 hm:W.mroIn K C (.type "object")=Za Zh
structure IsOk (ce:CeT)(K:W.Frag)(c:Ze)(ans:Ty->Option Bool):Prop where
 non:∀b,ans .non=Za b->W.kitOne K (.type "NoneType") c=Za b
 bl:∀b,ans .bl=Za b->W.kitOne K (.type "bool") c=Za b
 int:∀b,ans .int=Za b->W.kitOne K (.type "int") c=Za b
 str:∀b,ans .str=Za b->W.kitOne K (.type "str") c=Za b
 lst:∀b,ans .lst=Za b->W.kitOne K (.type "list") c=Za b
 tup:∀b,ans .tup=Za b->W.kitOne K (.type "tuple") c=Za b
 dct:∀b,ans .dct=Za b->W.kitOne K (.type "dict") c=Za b
 ins:∀k C b,ans (.ins k)=Za b->ce k=Za C->ClsI K C/\W.kitOne K (.ref C) c=Za b
 exc:∀k C b,ans (.exc k)=Za b->W.nsIn K Z2 k=Za (Za (.ref C))->ExI K C/\W.kitOne K (.ref C) c=Za b
def eIsi (ans:Ty->Option Bool)(e:E1):E1:=λ σ h=>(e σ h).bind λ v h1=>match (tyI v h1).bind ans with
 | some b=>.ok (.bl b) h1
 | none=>.stuck
theorem Jxf {b:Bool}{Q:QvT}{E:QvT}{A:ZN}(N:Now ce X pj ι σi h σ H s)(rx:RU X.K ι H x u)(O:IsOk ce X.K c ans) 
  (e:(tyI x h).bind ans=Za b)(hq:∀tk,Q (.bool b) { s with toks:=tk }):Zy (Z9 X.prog X.w) A (call (.builtin "isinstance") [u,c]) Q E s:=by
 obtain⟨xv,rx,qx⟩:=rx
 cases x with
 | non=>cases (show xv=.non from qx);cases rx;exact W.kia_one W.kitx_none N.inv.kIn Zat (O.non b e) (λ z=>nomatch z) hq
 | bl i=>cases (show xv=.bl i from qx);cases rx;exact W.kia_one W.kitx_bool N.inv.kIn Zat (O.bl b e) (λ z=>nomatch z) hq
 | int i=>cases (show xv=.int i from qx);obtain⟨t,rfl⟩:=rx;exact W.kia_one W.kitx_int N.inv.kIn Zat (O.int b e) (λ z=>nomatch z) hq
 | str i=>cases (show xv=.str i from qx);obtain⟨t,rfl⟩:=rx;exact W.kia_one W.kitx_str N.inv.kIn Zat (O.str b e) (λ z=>nomatch z) hq
 | tup xs =>
  obtain⟨a,vs,rfl,sa,_⟩:=qx
  cases rx
  obtain⟨its,rv,⟨o,ho,hc,m,hd⟩,hz⟩:=N.inv.tuple sa
  exact W.kia_one W.kitx_tuple N.inv.kIn ⟨o,ho,hc⟩ (O.tup b e) (λ z=>nomatch z) hq
 | rol xs =>
  obtain⟨a,vs,rfl,sa,_⟩:=qx
  cases rx
  obtain⟨its,rv,⟨o,m,ho,hc,_,hd⟩,hz⟩:=N.inv.list sa.sq
  exact W.kia_one W.kitx_list N.inv.kIn ⟨o,ho,hc⟩ (O.lst b e) (λ z=>nomatch z) hq
 | ref i =>
  obtain⟨a,rfl,ha⟩:=qx
  cases rx
  cases hi:h[i]? with
  | none=>simp[tyI,hi] at e
  | some ob =>
   cases ob with
   | lst xs =>
    simp only[tyI,hi] at e
    obtain⟨vs,e1,r1⟩:=N.at hi ha
    obtain⟨its,rv,⟨o,m,ho,hc,_,hd⟩,hz⟩:=N.inv.list (SqL.of e1)
    exact W.kia_one W.kitx_list N.inv.kIn ⟨o,ho,hc⟩ (O.lst b e) (λ z=>nomatch z) hq
   | dct kvs =>
    simp only[tyI,hi] at e
    obtain⟨vs,e1,r1⟩:=N.at hi ha
    obtain⟨_,_,ws,_,p⟩:=(show JG X.prog X.w H s.heap a (.dK vs) from N.inv.hok a _ e1)
    obtain⟨o,es,ep,h1,h2,_⟩:=p
    exact W.kia_one W.kitx_dict N.inv.kIn ⟨o,h1,h2.1⟩ (O.dct b e) (λ z=>nomatch z) hq
   | ins c fs =>
    simp only[tyI,hi] at e
    obtain⟨C,dx,vs,hC,hH,rp⟩:=N.at hi ha
    obtain⟨I,hk⟩:=O.ins c C b e hC
    obtain⟨mA,Ob,_⟩:=Jjg N.inv.hok hH
    obtain⟨od,J,_⟩:=Ob.look
    exact W.kia_one (W.kitx_own (I.cl.get _) I.cl.hd I.ha I.hn I.htk I.hm) N.inv.kIn J hk (λ z=>nomatch z) hq
   | exc c fs=>simp[tyI,hi] at e
   | hld c fs=>simp[tyI,hi] at e
   | tab q=>simp[tyI,hi] at e
variable {a cx:Expr}{ma:E1}{pos p:Pos}
def ClsE (X:Cx)(cx:Expr)(c:Ze):Prop:=∀(pj:PnT)(σ:L2.St)(H:Hp)(s:Zm)(Q:QvT)(E:QvT),Inv X pj σ H s->Q c s->Zy (Z9 X.prog X.w) X.A (ZaY cx X.env) Q E s
theorem Ye (hg:Gl X x)(hm:X.mg x=Zc)(hv:Zck x=Za c)(hn:x≠"__name__":=by decide)(hdb:(x==("__debug__":Str))=Zk:=by decide):ClsE X (.Name x p) c:=λ _ _ _ _ _ _ I q=>Qr I hg hm hv q hn hdb
theorem Jwq (hg:Gl X x)(hm:X.mg x=Za c)(hdb:(x==("__debug__":Str))=Zk:=by decide):ClsE X (.Name x p) c:=λ _ _ _ _ _ _ I q=>VX I hg hm q hdb
theorem J2e {ans:Ty->Option Bool}{c:Ze}(hc:ClsE X cx c)(O:IsOk ce X.K c ans)(ha:PEi ce X a ma)(hg:Gl X "isinstance")(hm:X.mg "isinstance"=Zc)(hv:Zck "isinstance"=Za (.builtin "isinstance"):=by rfl)
  (he:ZD [a,cx] X.env=(Zk,ZaY a X.env)::ZD [cx] X.env:=by rfl)(he2:ZD [cx] X.env=(Zk,ZaY cx X.env)::ZD [] X.env:=by rfl)(hpl:(Zbq pos (ZD [cx] X.env)).any (·.1)=Zk:=by rfl):PEi ce X (.Call (.Name "isinstance" p) [a,cx] [] pos) (eIsi ans ma):=by
 intro pj s σ H ι σi h Q E N K
 refine Zaj (Qr N.inv hg hm hv ?_ (by decide) (by decide))
 refine ZbJ ?_ he hpl
 rw[he]
 show Zy _ _ (spliced ((Zk,ZaY a X.env)::Zbq pos (ZD [cx] X.env))) _ _ s
 refine Zdk (ha.run N K λ x h1 u s1 H1 ι1 N1 n1 r1 K1=>?_)
 rw[he2]
 show Zy _ _ (spliced ((Zk,ZaY cx X.env)::Zbq pos (ZD [] X.env))) _ _ s1
 refine Zdk (hc pj σ H1 s1 _ E N1.inv ?_)
 refine Calls.spliced_nil ?_
 cases e:(tyI x h1).bind ans with
 | none=>rw[e] at K1;exact Zf K1
 | some b =>
  rw[e] at K1
  exact Jxf N1 r1 O e λ tk=>K1 _ _ H1 ι1 ⟨N1.inv.tok tk,N1.rel,N1.st⟩ .refl ⟨.bl b,rfl,rfl⟩
def VA:Ty->Option Bool
 | .int=>Za Zh|.bl=>Za Zh|.ins _=>Zc|.exc _=>Zc|_=>Za Zk
def V9:Ty->Option Bool
 | .bl=>Za Zh|.ins _=>Zc|.exc _=>Zc|_=>Za Zk
def VC:Ty->Option Bool
 | .str=>Za Zh|.ins _=>Zc|.exc _=>Zc|_=>Za Zk
def Ve:Ty->Option Bool
 | .lst=>Za Zh|.ins _=>Zc|.exc _=>Zc|_=>Za Zk
def Vu:Ty->Option Bool
 | .tup=>Za Zh|.ins _=>Zc|.exc _=>Zc|_=>Za Zk
theorem Jqr {K:W.Frag}:IsOk ce K (.type "bool") V9:=by
 refine⟨?_,?_,?_,?_,?_,?_,?_,(λ k C b e=>by cases e),(λ k C b e=>by cases e)⟩<;>(intro b e;cases e;first|rfl|with_unfolding_all rfl|kernel_rfl)
theorem Jtb {K:W.Frag}:IsOk ce K (.type "str") VC:=by
 refine⟨?_,?_,?_,?_,?_,?_,?_,(λ k C b e=>by cases e),(λ k C b e=>by cases e)⟩<;>(intro b e;cases e;first|rfl|with_unfolding_all rfl|kernel_rfl)
theorem Jk4 {K:W.Frag}:IsOk ce K (.type "list") Ve:=by
 refine⟨?_,?_,?_,?_,?_,?_,?_,(λ k C b e=>by cases e),(λ k C b e=>by cases e)⟩<;>(intro b e;cases e;first|rfl|with_unfolding_all rfl|kernel_rfl)
theorem Jtc {K:W.Frag}:IsOk ce K (.type "tuple") Vu:=by
 refine⟨?_,?_,?_,?_,?_,?_,?_,(λ k C b e=>by cases e),(λ k C b e=>by cases e)⟩<;>(intro b e;cases e;first|rfl|with_unfolding_all rfl|kernel_rfl)
theorem Jta {K:W.Frag}:IsOk ce K (.type "int") VA:=by
 refine⟨?_,?_,?_,?_,?_,?_,?_,(λ k C b e=>by cases e),(λ k C b e=>by cases e)⟩<;>(intro b e;cases e;first|rfl|with_unfolding_all rfl|kernel_rfl)
end
def clOf (cells:List (Str×Zp)):List (Str×Zbj)->List (Str×Zp)->List (Str×Zp)
 | [],acc=>acc
 | (n,k)::r,acc=>clOf cells r (if (k==Za7)=Zh then(match cells.lookup n with|some c=>(n,c)::acc|none=>acc) else acc)
theorem Jhy {env:Env}(names:List (Str×Zbj))(acc:List (Str×Zp))(h:∀x∈names,x.2=.free->∃c,env.cells.lookup x.1=Za c) :
  (forIn names acc (λ (x:Str×Zbj)(r:List (Str×Zp))=>if (x.2==Za7)=Zh then(do let c<-cellOf env x.1;pure (ZaR ((x.1,c)::r))) else pure (ZaR r)):Sem (List (Str×Zp)))=pure (clOf env.cells names acc):=by
 induction names generalizing acc with
 | nil=>rfl
 | cons x r ih =>
  obtain⟨n,k⟩:=x
  have ih':=λ a=>ih a λ y hy=>h y (Zn _ hy)
  rw[List.forIn_cons]
  by_cases hk:(k==Za7)=Zh
  ·have hk':k=.free:=by
    cases k<;>first|rfl|exact absurd hk (by decide)
   obtain⟨c,hc⟩:=h (n,k) Z4 hk'
   have e1:cellOf env n=pure c:=by unfold cellOf;rw[hc]
   simp only[hk,if_true,e1,pure_bind]
   rw[ih']
   simp only[clOf,hk,if_true,hc]
  ·simp only[hk,ZW,if_false,pure_bind]
   rw[ih']
   simp only[clOf,hk,ZW,if_false]
theorem Jat {scope:Zbm}{env:Env}(h:∀x∈scope.names,x.2=.free->∃c,env.cells.lookup x.1=Za c):ZcN scope env=pure (clOf env.cells scope.names []):=by
 have e:=Jhy (env:=env) scope.names [] h
 have e2:ZcN scope env=((forIn scope.names [] (λ (x:Str×Zbj)(r:List (Str×Zp))=>if (x.2==Za7)=Zh then(do let c<-cellOf env x.1;pure (ZaR ((x.1,c)::r))) else pure (ZaR r)):Sem (List (Str×Zp)))>>=λ s=>pure s):=rfl
 rw[e2,e]
 rfl
theorem Ji2 {cells:List (Str×Zp)}:∀(names:List (Str×Zbj))(acc:List (Str×Zp)),(∀x c,acc.lookup x=Za c->cells.lookup x=Za c)->∀x c,(clOf cells names acc).lookup x=Za c->cells.lookup x=Za c
 | [],_,h,x,c,e=>h x c e
 | (n,k)::r,acc,h,x,c,e=>by
  refine Ji2 r _ ?_ x c e
  intro y d q
  split at q
  ·cases hc:cells.lookup n with
   | none=>rw[hc] at q;exact h y d q
   | some a =>
    rw[hc] at q
    simp only[Zai] at q
    cases hb:y==n with
    | true =>
     rw[hb] at q
     cases q
     rw[beq_iff_eq.mp hb]
     exact hc
    | false =>
     rw[hb] at q
     exact h y d q
  ·exact h y d q
theorem Jkk:∀(names:List (Str×Zbj))(acc:List (Str×Zp))(x:Str),(acc.lookup x).isSome=Zh->((clOf cells names acc).lookup x).isSome=Zh
 | [],_,_,h=>h
 | (n,k)::r,acc,x,h=>by
  refine Jkk r _ x ?_
  split
  ·cases hc:cells.lookup n with
   | none=>exact h
   | some a =>
    simp only[Zai]
    cases hb:x==n with
    | true=>rfl
    | false=>exact h
  ·exact h
theorem Yd {cells:List (Str×Zp)}:∀(names:List (Str×Zbj))(acc:List (Str×Zp))(x:Str)(c:Zp),(x,Za7)∈names->cells.lookup x=Za c->((clOf cells names acc).lookup x).isSome=Zh
 | [],_,_,_,h,_=>by simp at h
 | (n,k)::r,acc,x,c,h,hc=>by
  rcases Z7.mp h with e|e
  ·obtain⟨rfl,rfl⟩:=Prod.mk.inj e
   refine Jkk r _ _ ?_
   simp[hc]
  ·exact Yd r _ x c e hc
theorem Jbk {env:Env}:∀{names:List (Str×Zbj)}{x:Str}{k:Zbj},
  (names.map λ (n,k)=>if (k==Za7&&env.scope.kind==.function&&env.kindOf n==Za .cell) then(n,Zdy) else(n,k)).lookup x=Za k ->
  ∃k0,names.lookup x=Za k0/\(k,k0)∈([(k0,k0),(.cell,.free)]:List (Zbj×Zbj))
 | [],_,_,h=>by simp at h
 | (n,k1)::r,x,k,h=>by
  have ih:=@Jbk env r x k
  have h':Zb4 x ((if (k1==Za7&&env.scope.kind==.function&&env.kindOf n==Za .cell)=Zh then(n,Zdy) else(n,k1))::_)=Za k:=h
  cases hx:x==n with
  | true =>
   refine⟨k1,by simp[Zai,hx],?_⟩
   by_cases hc:(k1==Za7&&env.scope.kind==.function&&env.kindOf n==Za .cell)=Zh
   ·rw[if_pos hc] at h'
    simp only[Zai,hx] at h'
    cases h'
    simp only[Zr,beq_iff_eq] at hc
    rw[hc.1.1]
    simp
   ·rw[if_neg hc] at h'
    simp only[Zai,hx] at h'
    cases h'
    simp
  | false =>
   have h2:Zb4 x (r.map λ (n,k)=>if (k==Za7&&env.scope.kind==.function&&env.kindOf n==Za .cell) then(n,Zdy) else(n,k))=Za k:=by
    by_cases hc:(k1==Za7&&env.scope.kind==.function&&env.kindOf n==Za .cell)=Zh
    ·rw[if_pos hc] at h';simpa only[Zai,hx] using h'
    ·rw[if_neg hc] at h';simpa only[Zai,hx] using h'
   obtain⟨k0,e,m⟩:=ih h2
   exact⟨k0,by simp only[Zai,hx];exact e,m⟩
theorem Jfy {env:Env}:∀{names:List (Str×Zbj)}{x:Str},names.lookup x=Za .free ->
  ∃k,(names.map λ (n,k)=>if (k==Za7&&env.scope.kind==.function&&env.kindOf n==Za .cell) then(n,Zdy) else(n,k)).lookup x=Za k/\(k=.cell∨k=.free)
 | [],_,h=>by simp at h
 | (n,k1)::r,x,h=>by
  have ih:=@Jfy env r x
  cases hx:x==n with
  | true =>
   simp only[Zai,hx] at h
   cases h
   by_cases hc:(Za7==Za7&&env.scope.kind==.function&&env.kindOf n==Za .cell)=Zh
   ·exact⟨.cell,by rw[Z6];dsimp only;rw[if_pos hc];simp only[Zai,hx],.inl rfl⟩
   ·exact⟨.free,by rw[Z6];dsimp only;rw[if_neg hc];simp only[Zai,hx],.inr rfl⟩
  | false =>
   simp only[Zai,hx] at h
   obtain⟨k,e,q⟩:=ih h
   refine⟨k,?_,q⟩
   rw[Z6]
   dsimp only
   by_cases hc:(k1==Za7&&env.scope.kind==.function&&env.kindOf n==Za .cell)=Zh
   ·rw[if_pos hc];simp only[Zai,hx];exact e
   ·rw[if_neg hc];simp only[Zai,hx];exact e
def cxC (X:Cx)(N':List Str)(scope:Zbm)(C:Zp)(s:Zm)(H:Hp)(fp:List Zp):Cx :=
 { X with N:=N',s₀:=s,H₀:=H,env:=compEnvC scope (clOf X.env.cells scope.names []) C X.env,outer:=X.stack,ex:=fp,fn:=λ _=>Zk,pn:=[] }
def QA (N0 loc caps:List Str)(js:List Nat)(sc₀ scope:Zbm):Bool :=
 decide (scope.kind=.function)&&decide (sc₀.kind=.function)&&scope.names.all (λ x=>!(x.2==.cell))&&scope.names.all (λ x=>!(x.2==.local)||decide (scope.names.lookup x.1=Za .local)) &&
 scope.names.all (λ x=>!(x.2==.free)||decide (sc₀.names.lookup x.1=Za .cell)||decide (sc₀.names.lookup x.1=Za .free)) &&
 scope.names.all (λ x=>!(decide (scope.names.lookup x.1=Za .free))||(x.2==.free)) &&
 (js.zip caps).all (λ p=>decide (N0[p.1]?=Za p.2)&&decide (scope.names.lookup p.2=Za .free))&&decide (js.length=caps.length)&&decide (loc++caps).Nodup &&
 loc.all (λ n=>decide (scope.names.lookup n=Za .local))
open Classical in
def JK (chk:IH->Prop)(g:G1)(t:T1)(e:E1)(i0:Nat):List IV->ISt->IH->Res IV
 | [],_,h=>if chk h then .ok (.ref i0) h else .stuck
 | x::xs,σ,h=>if chk h then(match g x σ h with
   | .next σ1 h1=>(match t σ1 h1 with
    | .ok Zh h2=>(match e σ1 h2 with
     | .ok v h3=>(match h3[i0]? with
      | some (.lst acc)=>if acc.length<sizeLine then JK chk g t e i0 xs σ1 (h3.set i0 (.lst (acc++[v]))) else .stuck
      | _=>.stuck)
     | _=>.stuck)
    | .ok Zk h2=>JK chk g t e i0 xs σ1 h2
    | _=>.stuck)
   | _=>.stuck) else .stuck
def stC (nloc:Nat)(js:List Nat)(σ:ISt):ISt:=ZR nloc Zc++js.map λ j=>(σ[j]?).join
def Jz (it:I1)(nloc:Nat)(js:List Nat)(g:G1)(t:T1)(e:E1):E1:=λ σ h=>(it σ h).bind λ J h1=>JK J.chk g t e h1.length J.xs (stC nloc js σ) (h1++[.lst []])
theorem Jkm {prog:ZB}{w:Zab}{A:ZN}{R:ZdK->Zm->Prop}{s:Zm}{elt target iter:Expr}{ifs:List Expr}{scope:Zbm}{pos:Pos}{it acc:Ze}{env:Env}(I:Nat->Zm->Prop) 
  (turn:∀n s,I n s->Zy (Z9 prog w) A (ZbG it) (λ r s₁=>match r with
   | none=>R (.ok .next) s₁
   | some v=>Zy (Z9 prog w) A (Zct target it v) (λ _ s₁'=>Zy (Z9 prog w) A (ZdN target env v) (λ _ s₂ =>
     Zy (Z9 prog w) A (forIn ifs Zh λ c r=>if r=Zh then do let ok<-isTrue c env (ZaY c env);pure (ZaR ok) else pure (ZaR r)) (λ ok s₃ =>
      if ok=Zh then Zy (Z9 prog w) A (ZaY elt env) (λ x s₄ =>
       Zy (Z9 prog w) A (call (.builtin "list.append") [acc,x]) (λ _ s₅=>∃m,m<n/\I m s₅) (λ _ _=>False) s₄) (λ _ _=>False) s₃
      else ∃m,m<n/\I m s₃) (λ _ _=>False) s₂) (λ _ _=>False) s₁') (λ _ _=>False) s₁) (λ _ _=>False) s)
  (n:Nat) (h:I n s):Zcv (Z9 prog w) A (.compLoop (.ListComp elt [⟨target,iter,ifs,0⟩] scope pos) 0 it acc env) R s:=by
 refine codeAny_loop rfl I (λ n s hI=>?_) n h
 show Zy _ A ((compTurn (.ListComp elt [⟨target,iter,ifs,0⟩] scope pos) 0 it acc env).onRaise (λ x=>do Zd8 x env;theTreesLotGoes x)) _ _ s
 refine wpAny_noted (nof ?_)
 rw[compTurn_list]
 refine Zd (Zbo (Zd (Zap (turn n s hI) (λ r s₁ h₁=>?_) λ _ _ h'=>h')))
 cases r with
 | none=>exact Zw h₁
 | some v =>
  refine Zd (Zap h₁ (λ _ s₁' h₁'=>?_) λ _ _ h'=>h')
  refine Zd (Zap h₁' (λ _ s₂ h₂=>Zd (Zap h₂ (λ ok s₃ h₃=>?_) λ _ _ h'=>h')) λ _ _ h'=>h')
  cases ok with
  | false=>exact Zw ⟨rfl,h₃⟩
  | true =>
   exact Zd (Zd (Zap h₃ (λ x s₄ h₄=>Zd (Zap h₄ (λ _ s₅ h₅=>Zw (Zw ⟨rfl,h₅⟩)) λ _ _ h'=>h')) λ _ _ h'=>h'))
def PTsi (ce:CeT)(X:Cx)(ifs:List Expr)(m:T1):Prop:=PX ce X RB (forIn ifs Zh λ c r=>if r=Zh then do let ok<-isTrue c X.env (ZaY c X.env);pure (ZaR ok) else pure (ZaR r)) m
noncomputable def JC:T1:=λ _ h=>.ok Zh h
theorem Jv2:PTsi ce X [] JC:=λ _ s _ H ι _ _ _ _ N K=>wpAny_tests_nil (K Zh s H ι N .refl rfl)
theorem Jv3 {ce:CeT}{X:Cx}{c:Expr}{m:T1}(hc:PTi ce X c m):PTsi ce X [c] m:=λ pj s σ H ι σi h Q E N K=>wpAny_tests_one (hc pj s σ H ι σi h Q E N K)
def Vr (ce:CeT)(X:Cx)(use:Option (Ze->Sem Unit))(pj:PnT)(ι:List Zp)(σi:ISt)(σ:L2.St)(H:Hp)(r:Res IV)(Q:QvT)(E:QvT):Prop :=
 match r with
 | .ok v h'=>∀D C m s' H' ι',Now ce X pj ι' σi h' σ H' s'->Nxt ι H ι' H'->RU X.K ι' H' v (.ref D)->s'.heap.Ns C m->FpOk X pj H' C->compPost (Z9 X.prog X.w) X.A E use Q (.ref D) C (.ok .next) s'
 | .exc n h'=>∀pl a s' H' ι',Now ce X (pj++pl) ι' σi h' σ H' s'->Nxt ι H ι' H'->ι'[n]?=Za a->E (.ref a) s'
 | .stuck=>False
theorem Vr.mono (k:Vr ce X use pj ι σi σ H r Q E)(n:Nxt ι H ι' H'):Vr ce X use pj ι' σi σ H' r Q E:=by
 cases r with
 | ok v h'=>exact λ D C m s' H2 ι2 N n2 q=>k D C m s' H2 ι2 N (n.trans n2) q
 | exc m h'=>exact λ pl a s' H2 ι2 N n2 q=>k pl a s' H2 ι2 N (n.trans n2) q
 | stuck=>exact k
structure TurnC (P:ZB)(w:Zab)(C:Cx->Hp->Prop)(tg:Expr)(J:It)(fp:List Zp)(it:Zp)(tn:Nat->Zax->Prop):Prop where
 obj:∀i h,tn i h->∀b∈fp,∃o,h.get? b=Za o/\∀v,o.data≠.cell v
 keep:∀i h h',tn i h->(∀b∈fp,∀o,h.get? b=Za o->h'.get? b=Za o)->tn i h'
 item:∀(X:Cx)(i:Nat)(s:Zm)(σ:L2.St)(H:Hp),C X H->Inv X [] σ H s->(∀b∈fp,FpOk X [] H b)->tn i s.heap->J.go i H ->
  Zy (Z9 P w) X.A (ZbG (.ref it)) (λ r s1=>∃u,r=Za u/\Zy (Z9 P w) X.A (Zct tg (.ref it) u) (λ _ s2=>∃x H',Inv X [] σ H' s2/\RelV x u/\J.yld i H x H'/\tn (i+1) s2.heap/\∀b∈fp,H' b=Zc) (λ _ _=>False) s1) (λ _ _=>False) s
 done:∀(X:Cx)(i:Nat)(s:Zm)(σ:L2.St)(H:Hp),C X H->Inv X [] σ H s->(∀b∈fp,FpOk X [] H b)->tn i s.heap->J.stop i H->Zy (Z9 P w) X.A (ZbG (.ref it)) (λ r s1=>r=Zc/\Inv X [] σ H s1) (λ _ _=>False) s
 self:∀(A:ZN)(i:Nat)(s:Zm)(Q:QvT)(E:QvT),tn i s.heap->Q (.ref it) s->Zy (Z9 P w) A (Zeu (.ref it)) Q E s
def J1q (X0:Cx)(X:Cx)(_:Hp):Prop:=X.prog=X0.prog/\X.w=X0.w/\X.K=X0.K/\X.calm=Zh
def RItC (C:Cx->Hp->Prop)(ce:CeT)(X:Cx)(tg:Expr)(pj:PnT)(ι':List Zp)(I:ItI)(itv:Ze)(s2:Zm)(H':Hp):Prop :=
 ∃(it:Zp)(fp:List Zp)(tn:Nat->Zax->Prop)(J:It),itv=.ref it/\TurnC X.prog X.w C tg J fp it tn/\tn 0 s2.heap/\(∀b∈fp,FpOk X pj H' b)/\ItOk ce X.K ι' H' J I
def PIc (C:Cx->Hp->Prop)(ce:CeT)(X:Cx)(tg iter:Expr)(m:I1):Prop :=
 ∀(pj:PnT)(s:Zm)(σ:L2.St)(H:Hp)(ι:List Zp)(σi:ISt)(h:IH)(Q:QvT)(E:QvT),Now ce X pj ι σi h σ H s ->
  (match m σi h with
   | .ok I h'=>∀itv s' H' ι',Now ce X pj ι' σi h' σ H' s'->Nxt ι H ι' H'->RItC C ce X tg pj ι' I itv s' H'->Q itv s'
   | .exc n h'=>∀pl a s' H' ι',Now ce X (pj++pl) ι' σi h' σ H' s'->Nxt ι H ι' H'->ι'[n]?=Za a->E (.ref a) s'
   | .stuck=>False) ->
  Zy (Z9 X.prog X.w) X.A (ZaY iter X.env) (λ v s1=>Zy (Z9 X.prog X.w) X.A (Zeu v) Q E s1) E s
theorem PIi.c (p:PIi ce X tg iter m):PIc (J1q X) ce X tg iter m:=λ pj s σ H ι σi h Q E N k=>p pj s σ H ι σi h Q E N (by
 cases e:m σi h with
 | exc n h'=>rw[e] at k;exact k
 | stuck=>rw[e] at k;exact k
 | ok I h' =>
  rw[e] at k
  intro itv s' H' ι' N' n' ⟨it,fp,tn,J,e1,T,r⟩
  refine k itv s' H' ι' N' n' ⟨it,fp,tn,J,e1,⟨T.obj,T.keep,λ X' i s σ H c=>?_,λ X' i s σ H c=>?_,T.self⟩,r⟩
  ·exact T.item X' c.1 c.2.1 c.2.2.1 c.2.2.2 i [] s σ H _
  ·exact T.done X' c.1 c.2.1 c.2.2.1 c.2.2.2 i [] s σ H _)
section
variable {ce:CeT}{X:Cx}
theorem Jkn {N0 loc caps:List Str}{js:List Nat}{sc₀ scope:Zbm}{tg iter elt:Expr}{ifs:List Expr}{g:G1}{mt:T1}{me:E1}{pos ppos:Pos}{use:Option (Ze->Sem Unit)}(hi:PIc Cc ce X tg iter mi) 
  (hg:∀C s H fp,PGi ce (cxC X (loc++caps) scope C s H fp) tg g)(ht:∀C s H fp,PTsi ce (cxC X (loc++caps) scope C s H fp) ifs mt)(he:∀C s H fp,PEi ce (cxC X (loc++caps) scope C s H fp) elt me)
  (ok:QA N0 loc caps js sc₀ scope=Zh)(hN0:X.N=N0:=by rfl)(hsc:X.env.scope=sc₀:=by rfl)(hs:∀x,Zcc iter X.env x=pure x:=by intro _;rfl)
  {pj:PnT}{s:Zm}{σ:L2.St}{H:Hp}{ι:List Zp}{σi:ISt}{h:IH}{Q:QvT}{E:QvT}(hcc:∀C s H1 fp H',Ext H H'->Cc (cxC X (loc++caps) scope C s H1 fp) H')(N:Now ce X pj ι σi h σ H s)(K:Vr ce X use pj ι σi σ H (Jz mi loc.length js g mt me σi h) Q E) :
  Zy (Z9 X.prog X.w) X.A (comprehension (.ListComp elt [⟨tg,iter,ifs,0⟩] scope pos) scope X.env ppos (newList []) Zk (ZaY iter X.env) use) Q E s:=by
 simp only[QA,Zr,decide_eq_true_eq,ZaW,ZaO,Za5,beq_iff_eq,beq_eq_false_iff_ne] at ok
 obtain⟨⟨⟨⟨⟨⟨⟨⟨⟨kF,kF0⟩,kNC⟩,kL⟩,kFr⟩,kFx⟩,kJ⟩,kLen⟩,kNd⟩,kLo⟩:=ok
 have hfree:∀x∈scope.names,x.2=.free->X.env.kindOf x.1=Za .cell∨X.env.kindOf x.1=Za .free:=λ x hx hk=>by
  have e:X.env.kindOf x.1=sc₀.names.lookup x.1:=by rw[<- hsc];rfl
  rw[e]
  rcases kFr x hx with(z|z)|z
  ·exact absurd hk z
  ·exact .inl z
  ·exact .inr z
 have hclos:ZcN scope X.env=pure (clOf X.env.cells scope.names []):=Jat λ x hx hk=>N.inv.ok.has x.1 (hfree x hx hk)
 refine wpAny_comprehension_free (use:=use) (e:=.ListComp elt [⟨tg,iter,ifs,0⟩] scope pos) rfl hs hclos kF (λ x hx hl=>(kL x hx).resolve_left λ z=>z hl) ?_
 refine hi pj s σ H ι σi h _ E N ?_
 unfold Jz at K
 cases e0:mi σi h with
 | exc n h'=>rw[e0] at K;exact K
 | stuck=>rw[e0] at K;exact K
 | ok Jt h1 =>
  rw[e0] at K
  intro itv s1 H1 ι1 N1 n1 RI
  obtain⟨it,fp,tn,J,e,T,st1,f1,OK⟩:=RI
  subst e
  -- the list
  refine wpAny_newObj_type ?_
  have fresh1:H1 s1.heap.objs.size=Zc:=N1.inv.hok.fresh (Zq _)
  have I2:Inv X pj σ (upd H1 s1.heap.objs.size (.lst [])) { s1 with heap:=s1.heap.push { cls:=.type "list",dict:=Zc,data:=.seq ([]:List Ze).toArray } } :=
   N1.inv.laid (t':=s1.toks) (λ b u e=>Zg _ e) (Zq _) ⟨ZY _,[],0,.nil,Zz _ rfl⟩
  obtain⟨R2,n2⟩:=N1.rel.alloc (o:=.lst []) (io:=.lst []) fresh1 ⟨[],J7,rfl⟩
  generalize hs2:({ s1 with heap:=s1.heap.push { cls:=.type "list",dict:=Zc,data:=.seq ([]:List Ze).toArray } }:Zm)=s2 at I2 ⊢
  generalize hD:s1.heap.objs.size=D at *
  generalize hH2:upd H1 D (.lst [])=H2 at *
  have N2:Now ce X pj (ι1++[D]) σi (h1++[.lst []]) σ H2 s2:=⟨I2,R2,N1.st.mono n2⟩
  have keep12:∀b o,s1.heap.get? b=Za o->s2.heap.get? b=Za o:=λ b o q=>by rw[<- hs2];exact Zg _ q
  have st2:tn 0 s2.heap:=T.keep 0 _ _ st1 λ b _ o q=>keep12 b o q
  have hat:(ι1++[D])[h1.length]?=Za D:=by
   rw[<- N1.rel.len,ZA (Zq _)]
   simp
  have f2:∀b∈fp,FpOk X pj H2 b:=λ b hb=>by
   refine⟨?_,(f1 b hb).2⟩
   obtain⟨o,ho,_⟩:=T.obj 0 _ st1 b hb
   have:b≠D:=Z8 (by rw[<- hD];exact Z0 ho)
   rw[<- hH2,Jq this]
   exact(f1 b hb).1
  -- the block's own dict
  refine wpAny_newFunctionEnv (λ x hx=>kNC x hx) (by intro y hy;simp at hy) (λ h3 hns3 hsb3=>?_) kF
  generalize hC:s2.heap.objs.size=C at *
  have keep23:∀b o,s2.heap.get? b=Za o->h3.get? b=Za o:=λ b o q=>(hsb3.2 b (Z8 (by rw[<- hC];exact Z0 q))).trans (Zg _ q)
  have cells':∀x c,(clOf X.env.cells scope.names []).lookup x=Za c->X.env.cells.lookup x=Za c:=Ji2 _ _ (λ x c q=>by simp at q)
  -- the context of the block
  have okX:(cxC X (loc++caps) scope C s2 H2 fp).Ok:=by
   refine⟨N.inv.ok.mod,kF,N.inv.ok.glob,N.inv.ok.blt,Zc8 hC,λ x y c a b=>N.inv.ok.inj x y c (cells' x c a) (cells' y c b),λ x hx=>?_,λ x c z=>?_,N.inv.ok.hd,N.inv.ok.frames,.inl rfl,λ b hb=>?_,λ b o q=>I2.bs b o q,
    ZZ N.inv.ok.bsz I2.sz,λ b o q hb=>?_,λ b hb z=>?_,I2.stack,I2.stkFree⟩
   ·have hx':(relabel scope X.env).names.lookup x=Za .cell∨(relabel scope X.env).names.lookup x=Za .free:=hx
    have hfr:scope.names.lookup x=Za .free:=by
     rcases hx' with z|z
     ·obtain⟨k0,e,m⟩:=Jbk z
      simp only[Z7,Prod.mk.injEq,ZS,or_false] at m
      rcases m with⟨m1,_⟩|⟨_,m2⟩
      ·exact absurd (kNC _ (Zak e)) (by rw[<- m1];intro q;exact q rfl)
      ·rw[m2] at e;exact e
     ·obtain⟨k0,e,m⟩:=Jbk z
      simp only[Z7,Prod.mk.injEq,ZS,or_false] at m
      rcases m with⟨m1,_⟩|⟨m1,_⟩
      ·rw[<- m1] at e;exact e
      ·cases m1
    have hm:=Zak hfr
    obtain⟨c,hc'⟩:=N.inv.ok.has x (hfree (x,.free) hm rfl)
    exact Zbn.mp (Yd _ _ x c hm hc')
   ·exact absurd (show Zk=Zh from z) Zt
   ·have hbD:=f2 b hb
    obtain⟨o,ho,_⟩:=T.obj 0 _ st2 b hb
    exact⟨Z8 (by show b<C;rw[<- hC];exact Z0 ho),λ x c q=>hbD.2.2.2.2.1 x c (cells' x c q)⟩
   ·rcases(f2 b hb).2.2.2.1 with z|z
    ·exact N.inv.ok.noex b o q z
    ·exact Zcq _ (ZJ (Z0 q) (ZZ N.inv.ok.bsz z))
   ·rcases Z7.mp (I2.stkSub b z) with e|e
    ·exact(f2 b hb).2.1 e
    ·exact(f2 b hb).2.2.1 e
  -- the block's state
  have lenJ:js.length=caps.length:=kLen
  have stl:(stC loc.length js σi).length=(loc++caps).length:=by simp[stC,lenJ]
  have R3:Rel ce X.K (ι1++[D]) (h1++[.lst []]) H2:=R2
  have I3:Inv (cxC X (loc++caps) scope C s2 H2 fp) [] (ZR loc.length Zc++js.map λ j=>(σ[j]?).join) H2 { s2 with heap:=h3,toks:=s2.toks+([]:List (Str×Ze)).length }:=by
   refine⟨okX,rfl,I2.bare,Un.kept keep23,⟨_,hns3,λ i x v a b c=>?_⟩,λ x c q=>?_,I2.hok.fresh (Zc8 hC),λ x c q=>I2.freeC x c (cells' x c q),λ p hp=>absurd (show p∈([]:PnT) from hp) (by simp),I2.hok.kept keep23,by show _=(loc++caps).length;simp[lenJ]⟩
   ·have hi:loc.length<=i:=by
     refine ZcL λ hlt=>?_
     rw[ZE (by simpa using hlt),ZbH] at b
     split at b<;>cases b
    obtain⟨k,rfl⟩:∃k,i=loc.length+k:=⟨i-loc.length,by omega⟩
    have a':(loc++caps)[loc.length+k]?=Za x:=a
    rw[ZA (by omega)] at a'
    rw[ZA (by simp)] at b
    simp only[Nat.add_sub_cancel_left,Zb0,Z1] at a' b
    cases ej:js[k]? with
    | none=>rw[ej] at b;cases b
    | some j =>
     rw[ej] at b
     have b':(σ[j]?).join=Za v:=Zao b
     have hσ:σ[j]?=Za (Za v):=by
      cases es:σ[j]? with
      | none=>rw[es] at b';cases b'
      | some o=>rw[es] at b';rw[show o=Za v from b']
     have hz:=kJ (j,x) (List.mem_iff_getElem?.mpr ⟨k,by rw[List.getElem?_zip_eq_some];exact⟨ej,a'⟩⟩)
     obtain⟨hx1,hx2⟩:=hz
     obtain⟨m,hn,hl⟩:=I2.loc
     have hk:=hfree (x,.free) (Zak hx2) rfl
     obtain⟨u,ru,lk⟩:=hl j x v (by rw[hN0];exact hx1) hσ (by rcases hk with q|q;exact .inr (.inl q);exact .inr (.inr q))
     rcases lk with⟨q,_⟩|⟨q,c,hc',hcell⟩
     ·rcases hk with q'|q'<;>(rw[q'] at q;cases q)
     ·obtain⟨kk,ek,hkk⟩:=Jfy (env:=X.env) hx2
      have hcl:=Yd (cells:=X.env.cells) scope.names [] x c (Zak hx2) hc'
      obtain⟨c',hc2⟩:=Zbn.mp hcl
      have:=cells' x c' hc2
      rw[hc'] at this
      cases this
      obtain⟨oc,hoc,hd⟩:=hcell
      refine⟨u,ru,.inr ⟨?_,c,hc2,oc,keep23 _ _ hoc,hd⟩⟩
      rcases hkk with rfl|rfl
      ·exact .inl ek
      ·exact .inr ek
   ·obtain⟨v,o,ho,hd⟩:=I2.cell x c (cells' x c q)
    exact⟨v,o,keep23 _ _ ho,hd⟩
  have N3:Now ce (cxC X (loc++caps) scope C s2 H2 fp) [] (ι1++[D]) (stC loc.length js σi) (h1++[.lst []]) (ZR loc.length Zc++js.map λ j=>(σ[j]?).join) H2 { s2 with heap:=h3,toks:=s2.toks+([]:List (Str×Ze)).length }:=by
   refine⟨I3,R3,by simp[stC],λ i v q=>?_⟩
   unfold stC at q
   have hi:loc.length<=i:=by
    refine ZcL λ hlt=>?_
    rw[ZE (by simpa using hlt),ZbH] at q
    split at q<;>cases q
   rw[ZA (by simpa using hi)] at q
   simp only[Zb0,Z1] at q
   cases ej:js[i-loc.length]? with
   | none=>rw[ej] at q;cases q
   | some j =>
    rw[ej] at q
    have q':(σi[j]?).join=Za v:=Zao q
    have hσ:σi[j]?=Za (Za v):=by
     cases es:σi[j]? with
     | none=>rw[es] at q';cases q'
     | some o=>rw[es] at q';rw[show o=Za v from q']
    obtain⟨u,hu,qu⟩:=N2.st.at_ j v hσ
    refine⟨u,?_,qu⟩
    rw[ZA (by simpa using hi)]
    simp only[Zb0,Z1,ej,Option.map_some,hu]
    rfl
  have st3:tn 0 h3:=T.keep 0 _ _ st2 λ b _ o q=>keep23 b o q
  have K2:Vr ce X use pj (ι1++[D]) σi σ H2 (JK Jt.chk g mt me h1.length Jt.xs (stC loc.length js σi) (h1++[.lst []])) Q E:=Vr.mono (r:=JK Jt.chk g mt me h1.length Jt.xs (stC loc.length js σi) (h1++[.lst []])) K (n1.trans n2)
  have loop:Zcv (Z9 X.prog X.w) X.A (.compLoop (.ListComp elt [⟨tg,iter,ifs,0⟩] scope pos) 0 (.ref it) (.ref D) (compEnvC scope (clOf X.env.cells scope.names []) C X.env)) (compPost (Z9 X.prog X.w) X.A E use Q (.ref D) C)
    { s2 with heap:=h3,toks:=s2.toks+([]:List (Str×Ze)).length }:=by
   refine Jkm (λ n s'=>∃k ιk σk hk σ' H',Now ce (cxC X (loc++caps) scope C s2 H2 fp) [] ιk σk hk σ' H' s'/\Nxt (ι1++[D]) H2 ιk H'/\tn k s'.heap/\(∀b∈fp,H' b=Zc)/\n=Jt.xs.length-k/\k<=Jt.xs.length/\Vr ce X use pj ιk σi σ H' (JK Jt.chk g mt me h1.length (Jt.xs.drop k) σk hk) Q E) ?_ Jt.xs.length
    ⟨0,ι1++[D],stC loc.length js σi,h1++[.lst []],_,H2,N3,.refl,st3,λ b hb=>(f2 b hb).1,by simp,ZY _,by simpa using K2⟩
   have stat:∀{H':Hp},(∀b∈fp,H' b=Zc)->∀b∈fp,FpOk (cxC X (loc++caps) scope C s2 H2 fp) [] H' b:=λ hn b hb =>
    ⟨hn b hb,(okX.exf b hb).1,okX.exfs b hb,.inl hb,(okX.exf b hb).2,λ p hp=>absurd (show p∈([]:PnT) from hp) (by simp)⟩
   rintro n s4 ⟨k,ιk,σk,hk,σ4,H4,N4,n4,st4,fr4,rfl,hkl,K4⟩
   by_cases hlt:k<Jt.xs.length
   ·have hd:Jt.xs.drop k=Jt.xs[k]::Jt.xs.drop (k+1):=Za2 hlt
    rw[hd] at K4
    unfold JK at K4
    split at K4
    ·rename_i hck
     obtain⟨go,yl⟩:=OK.go k Jt.xs[k] hk H4 ιk (n2.trans n4) N4.rel hck (Zb hlt)
     refine thn (T.item (cxC X (loc++caps) scope C s2 H2 fp) k s4 σ4 H4 (hcc _ _ _ _ _ (n1.trans (n2.trans n4)).ext) N4.inv (stat fr4) st4 go) λ r s5 ⟨u,hr,h5⟩=>?_
     subst hr
     refine thn h5 λ _ s6 ⟨x,H6,I6,r6,y6,st6,fr6⟩=>?_
     obtain⟨R6,n6,q6⟩:=yl x H6 y6
     have I6':=I6.pinned (stat fr6) (T.obj _ _ st6)
     have N6:Now ce (cxC X (loc++caps) scope C s2 H2 fp) ([]++QG fp s6.heap) ιk σk hk σ4 H6 s6:=⟨I6',R6,N4.st.mono n6⟩
     have again:∀{σ7:L2.St}{H7:Hp}{s7:Zm}{σ7i:ISt}{h7:IH}{ι7:List Zp},Now ce (cxC X (loc++caps) scope C s2 H2 fp) ([]++QG fp s6.heap) ι7 σ7i h7 σ7 H7 s7->Nxt ιk H6 ι7 H7->Vr ce X use pj ιk σi σ H4 (JK Jt.chk g mt me h1.length (Jt.xs.drop (k+1)) σ7i h7) Q E ->
       ∃m,m<Jt.xs.length-k/\∃k ιk σk hk σ' H',Now ce (cxC X (loc++caps) scope C s2 H2 fp) [] ιk σk hk σ' H' s7/\Nxt (ι1++[D]) H2 ιk H'/\tn k s7.heap/\(∀b∈fp,H' b=Zc)/\m=Jt.xs.length-k/\k<=Jt.xs.length/\Vr ce X use pj ιk σi σ H' (JK Jt.chk g mt me h1.length (Jt.xs.drop k) σk hk) Q E :=
      λ {σ7 H7 s7 σ7i h7 ι7} N7 n7 K7=>by
       have nn:Nxt ιk H4 ι7 H7:=n6.trans n7
       refine⟨Jt.xs.length-(k+1),by omega,k+1,ι7,σ7i,h7,σ7,H7,N7.pins,n4.trans nn,T.keep _ _ _ st6 λ b hb o e=>(N7.inv.pin (b,o) (Zi _ (Zi _ (Ys hb e)))).1,λ b hb=>?_,rfl,hlt,K7.mono nn⟩
       obtain⟨o,e,d⟩:=T.obj _ _ st6 b hb
       exact(N7.inv.pin (b,o) (Zi _ (Zi _ (Ys hb e)))).2.1
     cases eg:g Jt.xs[k] σk hk with
     | next σg hgg =>
      rw[eg] at K4
      dsimp only at K4
      refine hg C s2 H2 fp _ s6 σ4 H6 ιk σk hk _ u (λ _ s7=>Zy (Z9 X.prog X.w) X.A (forIn ifs Zh λ c r=>if r=Zh then do let ok<-isTrue c _ (ZaY c _);pure (ZaR ok) else pure (ZaR r)) _ _ s7) (λ _ _=>False) N6 ⟨x,r6,q6⟩ ?_
      rw[eg]
      intro s7 σ7 H7 ι7 N7 n7
      refine ht C s2 H2 fp _ s7 σ7 H7 ι7 σg hgg _ (λ _ _=>False) N7 ?_
      cases et:mt σg hgg with
      | ok c h8 =>
       rw[et] at K4
       intro d s8 H8 ι8 N8 n8 rd
       have rd':d=c:=rd
       subst rd'
       cases d with
       | false=>exact again N8 (n7.trans n8) K4
       | true =>
        dsimp only at K4
        refine he C s2 H2 fp _ s8 σ7 H8 ι8 σg h8 _ (λ _ _=>False) N8 ?_
        cases ee:me σg h8 with
        | ok v h9 =>
         rw[ee] at K4
         dsimp only at K4
         intro w s9 H9 ι9 N9 n9 rw9
         have hat9:ι9[h1.length]?=Za D:=(((n4.trans n6).trans n7).trans (n8.trans n9)).at hat
         cases hl:h9[h1.length]? with
         | none=>rw[hl] at K4;exact Zf K4
         | some ob =>
          rw[hl] at K4
          cases ob with
          | lst acc =>
           dsimp only at K4
           split at K4
           ·rename_i hz
            obtain⟨vs,eD,rD⟩:=N9.at hl hat9
            obtain⟨wv,rw9,qw⟩:=rw9
            have ap:=Jk9 (X:=(cxC X (loc++caps) scope C s2 H2 fp).wish λ _ _=>False) ([]++QG fp s6.heap) s9 σ7 H9 (.ref D) [wv] (.ref D) [w] (λ _ H'=>H'=upd H9 D (.lst (vs++[wv]))) (N9.inv.wish _) rfl (.cons rw9 .nil) ⟨D,vs,wv,rfl,rfl,eD,by rw[rD.length];exact hz,rfl⟩
            refine Zap ap (λ _ s10 hq=>?_) λ _ _ z=>z
            obtain⟨z,H10,I10,_,rfl⟩:=hq
            have n10:Nxt ι9 H9 ι9 (upd H9 D (.lst (vs++[wv]))):=⟨⟨[],by simp⟩,Ext.upd_mut eD (by rw[eD];exact Zat)⟩
            obtain⟨R10,_⟩:=N9.rel.write (o:=.lst (vs++[wv])) (io:=.lst (acc++[v])) hat9 eD (by rw[eD];exact Zat) ⟨_,J7,(RVs.mono n10 _ _ rD).append (RVs.one (RV.mono n10 _ _ qw))⟩
            exact again ⟨I10.unwish,R10,N9.st.mono n10⟩ (((n7.trans n8).trans n9).trans n10) K4
           ·exact Zf K4
          | _=>exact Zf K4
        | _=>rw[ee] at K4;exact Zf K4
      | _=>rw[et] at K4;exact Zf K4
     | _=>rw[eg] at K4;exact Zf K4
    ·exact Zf K4
   ·have hke:Jt.xs.drop k=[]:=ZcC (by omega)
    rw[hke] at K4
    unfold JK at K4
    split at K4
    ·rename_i hck
     have stop:=OK.stop k hk H4 ιk (n2.trans n4) N4.rel hck (by omega)
     refine thn (T.done (cxC X (loc++caps) scope C s2 H2 fp) k s4 σ4 H4 (hcc _ _ _ _ _ (n1.trans (n2.trans n4)).ext) N4.inv (stat fr4) st4 stop) λ r s5 ⟨hr,I5⟩=>?_
     subst hr
     obtain⟨m,hnm,_⟩:=I5.loc
     -- back to the def's own frame
     have hos:s5.os=s2.os:=I5.os
     obtain⟨hp5,g5,d5,t5,os5⟩:=s5
     obtain rfl:os5=s2.os:=hos
     have J5:Inv X pj σ H4 { s2 with heap:=hp5,gens:=g5,drawn:=d5,toks:=t5 }:=I2.call (ch:=fp) I5.base I5.hok I5.bare λ b hb=>⟨(f2 b hb).2.2.2.1,(f2 b hb).2.1,(f2 b hb).2.2.2.2.1,(f2 b hb).2.2.2.2.2⟩
     have fC:FpOk X pj H4 C:=I2.fpOk (Zc8 hC) I5.free
     exact K4 D C m _ H4 ιk ⟨J5,N4.rel,(N2.st.mono n4)⟩ .refl ⟨.ref D,rfl,D,rfl,n4.at hat⟩ hnm fC
    ·exact Zf K4
  exact codeAny_compStart_list loop (T.self X.A 0 _ _ _ st3 loop)
theorem Now.letgo {pj:PnT}{ι:List Zp}{σi:ISt}{h:IH}{σ:L2.St}{H:Hp}{s:Zm}{C:Zp}{h':Zax}(N:Now ce X pj ι σi h σ H s)(fC:FpOk X pj H C)(sb:Zc6 C s.heap h'):Now ce X pj ι σi h σ H { s with heap:=h' } :=
 ⟨N.inv.turned (it:=C) (t':=s.toks) (λ b o hb q=>(sb.2 b hb).trans q) fC.1 fC.2.1 fC.2.2.2.1 fC.2.2.2.2.1 fC.2.2.2.2.2,N.rel,N.st⟩
theorem Jvg {N0 loc caps:List Str}{js:List Nat}{sc₀ scope:Zbm}{tg iter elt:Expr}{ifs:List Expr}{g:G1}{mt:T1}{me:E1}{pos:Pos}(hc:X.calm=Zh)(hi:PIi ce X tg iter mi) 
  (hg:∀C s H fp,PGi ce (cxC X (loc++caps) scope C s H fp) tg g)(ht:∀C s H fp,PTsi ce (cxC X (loc++caps) scope C s H fp) ifs mt)(he:∀C s H fp,PEi ce (cxC X (loc++caps) scope C s H fp) elt me)
  (ok:QA N0 loc caps js sc₀ scope=Zh)(hN0:X.N=N0:=by rfl)(hsc:X.env.scope=sc₀:=by rfl)(hs:∀x,Zcc iter X.env x=pure x:=by intro _;rfl):PEi ce X (.ListComp elt [⟨tg,iter,ifs,0⟩] scope pos) (Jz mi loc.length js g mt me):=by
 intro pj s σ H ι σi h Q E N K
 rw[eval_ListComp]
 refine Jkn hi.c hg ht he ok hN0 hsc hs (λ _ _ _ _ _ _=>⟨rfl,rfl,rfl,hc⟩) N ?_
 cases e0:Jz mi loc.length js g mt me σi h with
 | exc n h'=>rw[e0] at K;exact K
 | stuck=>rw[e0] at K;exact K
 | ok v h' =>
  rw[e0] at K
  exact λ D C m s' H' ι' N' n' r hns fC=>⟨m,hns,λ h2 sb=>K _ _ H' ι' (N'.letgo fC sb) n' r⟩
theorem Jvt {N0 loc caps:List Str}{js:List Nat}{sc₀ scope:Zbm}{tg iter elt:Expr}{ifs:List Expr}{g:G1}{mt:T1}{me:E1}{pos pos2 pos3:Pos}{i:Nat}{x:Str}(hc:X.calm=Zh)(hi:PIi ce X tg iter mi) 
  (hg:∀C s H fp,PGi ce (cxC X (loc++caps) scope C s H fp) tg g)(ht:∀C s H fp,PTsi ce (cxC X (loc++caps) scope C s H fp) ifs mt)(he:∀C s H fp,PEi ce (cxC X (loc++caps) scope C s H fp) elt me)
  (ok:QA N0 loc caps js sc₀ scope=Zh)(hN0:X.N=N0:=by rfl)(hsc:X.env.scope=sc₀:=by rfl)(hs:∀x,Zcc iter X.env x=pure x)
  (hN:X.N.Nodup)(hix:X.N[i]?=Za x)(hlx:Loc X.env.scope x)(hf:X.fn x=Zh∨X.env.scope.names.lookup x=Za .local)
  (hsw:Zdf (.ListComp elt [⟨tg,iter,ifs,0⟩] scope pos) (Za (.Name x pos2)) pos3.line X.env=pure Zh) :
  PS1 ce X (.Assign [.Name x pos2] (.ListComp elt [⟨tg,iter,ifs,0⟩] scope pos) pos3) (Ji i (Jz mi loc.length js g mt me)):=by
 intro pj s σ H ι σi h Q E N K
 rw[exec_Assign_Name_used _ _ _ _ hsw]
 refine Zd (Zbo (Zd ?_))
 rw[arm_evalThenUse_ListComp]
 refine Zd ?_
 refine Jkn (use:=Za (ZdN (.Name x pos2) X.env)) hi.c hg ht he ok hN0 hsc hs (λ _ _ _ _ _ _=>⟨rfl,rfl,rfl,hc⟩) N ?_
 unfold Ji at K
 cases e0:Jz mi loc.length js g mt me σi h with
 | exc n h'=>rw[e0] at K;exact λ pl a s' H' ι' N' n' q=>K pl a s' σ H' ι' N' n' q s' (.inl rfl)
 | stuck=>rw[e0] at K;exact K
 | ok v h' =>
  rw[e0] at K
  intro D C m s' H' ι' N' n' r hns fC
  obtain⟨w,rw',q⟩:=r
  obtain⟨oC,es,ep,hoC,hdC,hrest⟩:=id hns
  have hp:Inv X (pj++QG [C] s'.heap) σ H' s':=N'.inv.pinned (λ b hb=>(show b=C by simpa using hb)▸fC) (λ b hb=>by
   have e:b=C:=by simpa using hb
   subst e
   exact⟨oC,hoC,λ v z=>by rw[hdC] at z;cases z⟩)
  refine wpAny_assign_Name (Jgf hp hN hix hlx rw' (λ s2 I2=>?_) hf)
  have hC2:=(I2.pin (C,oC) (Zi _ (Zi _ (Ys (by simp) hoC)))).1
  refine⟨m,⟨oC,es,ep,hC2,hdC,hrest⟩,λ h2 sb=>Zw ?_⟩
  have N2:Now ce X pj ι' (σi.set i (Za v)) h' (σ.set i (Za w)) H' s2:=⟨I2.unpinned,N'.rel,N'.st.set i q⟩
  exact Zw (K _ _ H' ι' (N2.letgo fC sb) n')
def Vl (x:Str):List IV:=x.cps.toList.map λ c=>.str ⟨#[c]⟩
def Its (x:Str):It:=⟨λ i _=>i<x.cps.size,λ i H y H'=>H'=H/\∃c,x.cps[i]?=Za c/\y=.str ⟨#[c]⟩,λ i _=>x.cps.size<=i⟩
theorem Jnr {P:ZB}{w:Zab}{K:W.Frag}{tg:Expr}{x:Str}{t:Tok}(it:Zp)(hty:["enumerate","zip","dict_itemiterator","dict_reverseitemiterator","odict_iterator","itertools.zip_longest","itertools.pairwise"].contains ty=Zk) 
  (W:∀A:ZN,A.handled=Zc->Walks P w A it [it] [it] x.cps.size (SignAt x) (λ i h=>h.IsStrIter it ty x t i))
  (We:∀(A:ZN)(E:QvT)(s:Zm)(i:Nat)(Q:Option Ze->Zm->Prop),A.handled=Zc->s.heap.IsStrIter it ty x t i->x.cps[i]?=Zc->(∀h',Heap.ExtBut it s.heap h'->Q Zc { s with heap:=h' })->Zy (Z9 P w) A (ZbG (.ref it)) Q E s)
  (Ws:∀(A:ZN)(E:QvT)(s:Zm)(i:Nat)(Q:QvT),s.heap.IsStrIter it ty x t i->Q (.ref it) s->Zy (Z9 P w) A (Zeu (.ref it)) Q E s):Turn P w K tg (Its x) [it] it (λ i h=>h.IsStrIter it ty x t i) where
 mem:=by simp
 obj:=λ i h st b hb=>by
  have e:b=it:=by simpa using hb
  subst e
  obtain⟨o,e,c,d⟩:=st
  exact⟨o,e,λ v z=>by rw[d] at z;cases z⟩
 keep:=λ i h h' st k=>by
  obtain⟨o,e,r⟩:=st
  exact⟨o,k it (by simp) o e,r⟩
 item:=by
  intro X hP hw hK hc i pj s σ H E I hf st hg
  subst hP hw hK
  obtain⟨f0,f1,f2,f3,f4,f5⟩:=hf it (by simp)
  refine(W X.A (I.ok.hd hc)).item i s _ _ hg st λ v h' tk hv st' kk=>?_
  obtain⟨c,u,hcc,rfl⟩:=hv
  have I1:Inv X pj σ H { s with heap:=h',toks:=tk }:=I.turned (λ b o hb e=>kk b o (by simpa using hb) e) f0 f1 f3 f4 f5
  obtain⟨o,e,c1,d1⟩:=id st'
  exact⟨_,rfl,Js0 (s:={ s with heap:=h',toks:=tk }) e c1 d1 hty ⟨.str ⟨#[c]⟩,H,I1,⟨u,rfl⟩,⟨rfl,c,hcc,rfl⟩,st',λ b hb=>(hf b hb).1⟩⟩
 done:=by
  intro X hP hw hK hc i pj s σ H E I hf st hg
  subst hP hw hK
  obtain⟨f0,f1,f2,f3,f4,f5⟩:=hf it (by simp)
  have hi:x.cps.size<=i:=hg
  have hx:x.cps[i]?=Zc:=by simp[hi]
  exact We X.A _ s i _ (I.ok.hd hc) st hx λ h' eb=>⟨rfl,I.turned (t':=s.toks) (λ b o hb e=>eb b o hb e) f0 f1 f3 f4 f5⟩
 self:=λ A i s Q E st h=>Ws A E s i Q st h
def Jtg:IV->IH->Res ItI
 | .str x,h=>.ok ⟨Vl x,λ _=>True⟩ h
 | _,_=>.stuck
def iStr (e:E1):I1:=λ σ h=>(e σ h).bind Jtg
theorem Jvj {x:Str}{ι:List Zp}{H₀:Hp}:ItOk ce X.K ι H₀ (Its x) ⟨Vl x,λ _=>True⟩:=by
 refine⟨λ k v h H ι' hp R hck hx=>?_,λ k h H ι' hp R hck hx=>?_⟩
 ·have hk:k<x.cps.size:=by
   have:=(Zo.mp hx).1
   simpa [Vl] using this
  refine⟨hk,λ y H' hy=>?_⟩
  obtain⟨rfl,c,hc,rfl⟩:=hy
  simp only[Vl,Z1,ZdV,hc] at hx
  cases hx
  exact⟨R,.refl,rfl⟩
 ·have:(Vl x).length=x.cps.size:=by simp[Vl]
  show x.cps.size<=k
  rw[<- this]
  exact hx
theorem Joq {tg l:Expr}{ml:E1}(hl:PEi ce X l ml):PIi ce X tg l (iStr ml):=by
 intro pj s σ H ι σi h Q E N K
 refine hl pj s σ H ι σi h _ E N ?_
 unfold iStr at K
 cases e0:ml σi h with
 | exc n h'=>rw[e0] at K;exact K
 | stuck=>rw[e0] at K;exact K
 | ok v h' =>
  rw[e0] at K
  intro u s1 H1 ι1 N1 n1 r1
  obtain⟨w,rw',q⟩:=r1
  have fresh:∀b∈[s1.heap.objs.size],FpOk X pj H1 b:=λ b hb=>by
   have e:b=s1.heap.objs.size:=by simpa using hb
   subst e
   exact N1.inv.fpOk (Zq _) (N1.inv.hok.fresh (Zq _))
  cases v with
  | str x =>
   have e1:w=.str x:=q
   subst e1
   obtain⟨t,rfl⟩:=rw'
   simp only[Res.bind,Jtg] at K
   cases ha:x.cps.all (· < 128) with
   | true =>
    refine wpAny_pyIter_ascii ha (K _ _ H1 ι1 ⟨N1.inv.kept (t':=s1.toks) λ b o e=>Zg _ e,N1.rel,N1.st⟩ n1 ?_)
    exact⟨s1.heap.objs.size,[s1.heap.objs.size],_,Its x,rfl,Jnr (ty:="str_ascii_iterator") (t:=t) _ (by decide) (λ A hA=>Walks.strAscii hA _ x t) (λ A E s i Q hA st hx hQ=>wpAny_pyNext_ascii_end hA st hx hQ) (λ A E s i Q st hq=>wpAny_pyIter_striter_ascii st hq),⟨_,Zz _ rfl,rfl,rfl⟩,fresh,Jvj⟩
   | false =>
    refine wpAny_pyIter_wide ha (K _ _ H1 ι1 ⟨N1.inv.kept (t':=s1.toks) λ b o e=>Zg _ e,N1.rel,N1.st⟩ n1 ?_)
    exact⟨s1.heap.objs.size,[s1.heap.objs.size],_,Its x,rfl,Jnr (ty:="str_iterator") (t:=t) _ (by decide) (λ A hA=>Walks.strWide hA _ x t) (λ A E s i Q hA st hx hQ=>wpAny_pyNext_wide_end hA st hx hQ) (λ A E s i Q st hq=>wpAny_pyIter_striter_wide st hq),⟨_,Zz _ rfl,rfl,rfl⟩,fresh,Jvj⟩
  | _=>simp only[Res.bind,Jtg] at K
def Ite (K:W.Frag)(a:Zp):It :=
 ⟨λ i H=>∃xs x,SqL K H a xs/\xs[i]?=Za x,λ i H y H'=>∃p x,H p=Zc/\y=.ref p/\H'=upd H p (.tup [.int (i:Int),x])/\∀xs,SqL K H a xs->xs[i]?=Za x,λ i H=>∃xs,SqL K H a xs/\xs.length<=i⟩
theorem Jr0 {P:ZB}{w:Zab}{K:W.Frag}{es:List Expr}{k:Nat}{p:Pos}(a it e:Zp)(hne:e≠it):Turn P w K (.Tuple es k p) (Ite K a) [e,it] e (λ i h=>(∃old,IsEnum h e it (i:Int) old)/\h.IsListIter it a i) where
 mem:=by simp
 obj:=λ i h st b hb=>by
  obtain⟨⟨old,he⟩,o,e1,c,d⟩:=st
  simp only[Z7,ZS,or_false] at hb
  rcases hb with rfl|rfl
  ·exact⟨_,he,λ v z=>by
    have z':Data.fields _=Ze7 v:=z
    cases z'⟩
  ·exact⟨o,e1,λ v z=>by rw[d] at z;cases z⟩
 keep:=λ i h h' st k=>⟨let ⟨old,he⟩:=st.1;⟨old,k e (by simp) _ he⟩,st.2.at λ o e=>k it (by simp) o e⟩
 item:=by
  intro X hP hw hK hc i pj s σ H E I hf st hg
  subst hP hw hK
  obtain⟨⟨old,he⟩,hit⟩:=st
  obtain⟨xs,x,hq,hx⟩:=hg
  obtain⟨its,rv,pl,hz⟩:=I.list hq
  obtain⟨u,hu,ru⟩:=rv.get hx
  have fe:=hf e (by simp)
  have fi:=hf it (by simp)
  have hn:H s.heap.objs.size=Zc:=I.hok.fresh (Zq _)
  refine wpAny_pyNext_enum_item he hit pl.isList (x:=u) (by simpa using hu) hne λ h' he' hit' ht hsz kk=>?_
  refine⟨_,rfl,wpAny_letOwnedTupleGo_enum he' λ h2 he2 sb=>?_⟩
  have ltE:e<s.heap.objs.size:=Z0 he
  have neT:s.heap.objs.size≠e:=ZaQ ltE
  have k2:∀b o,b≠e->b≠it->s.heap.get? b=Za o->h2.get? b=Za o:=λ b o h1 h3 q=>(sb.2 b h1).trans (kk b o h1 h3 q)
  have hl2:h2.IsListIter it a (i+1):=by
   obtain⟨o,q,r⟩:=hit'
   exact⟨o,(sb.2 it (ZI hne)).trans q,r⟩
  have t2:h2.get? s.heap.objs.size=Za { cls:=.type "tuple",data:=.seq #[.int i s.toks,u] }:=(sb.2 _ neT).trans ht
  -- the two records turn, then the tuple is tracked
  obtain⟨oe,hoe⟩:∃o,s.heap.get? e=Za o:=⟨_,he⟩
  obtain⟨oi,hoi,_⟩:=id hit
  have neP:∀b u,H b=Za u->b≠s.heap.objs.size:=λ b u q=>Vj q hn
  have I1:Inv X pj σ (upd H s.heap.objs.size (.tup [.int (i:Int),x])) { s with heap:=h2,toks:=s.toks+1 }:=by
   refine I.step (g':=s.gens) (d':=s.drawn) (ch:=[e,it]) (λ b hb=>?_) (λ b o _ _ hc q _=>k2 b o (λ z=>hc (by simp[z])) (λ z=>hc (by simp[z])) q) (λ b o _ _ hc q _=>⟨o.slots,k2 b o (λ z=>hc (by simp[z])) (λ z=>hc (by simp[z])) q⟩) (λ b o _ q n=>?_)
    (λ b o hc q=>⟨o,k2 b o (λ z=>hc (by simp[z])) (λ z=>hc (by simp[z])) q⟩) (λ b xs q=>by rw[Jq (neP b _ q)];exact q) (λ b o u q=>by rw[Jq (neP b _ q)];exact q) (λ b ps q=>⟨#[],by rw[Jq (neP b _ q),q];simp⟩) (λ m hm=>?_) (λ b u q=>?_) I.bare
   ·simp only[Z7,ZS,or_false] at hb
    rcases hb with rfl|rfl
    ·exact⟨fe.2.2.2.1,fe.2.1,fe.2.2.2.2.1,fe.2.2.2.2.2⟩
    ·exact⟨fi.2.2.2.1,fi.2.1,fi.2.2.2.2.1,fi.2.2.2.2.2⟩
   ·rw[Jq (Z8 (Z0 q))];exact n
   ·obtain⟨o,es,ep,ho,r⟩:=hm
    exact⟨o,es,ep,k2 _ o (ZI fe.2.1) (ZI fi.2.1) ho,r⟩
   ·by_cases hb:b=s.heap.objs.size
    ·subst hb
     rw[J7] at q
     cases q
     exact⟨by show 2<=sizeLine;decide,[.int i s.toks,u],.cons ⟨_,rfl⟩ (.cons ru .nil),⟨_,t2,rfl,_,rfl⟩⟩
    ·rw[Jq hb] at q
     have n1:b≠e:=λ z=>by rw[z,fe.1] at q;cases q
     have n2:b≠it:=λ z=>by rw[z,fi.1] at q;cases q
     refine(I.hok b u q).stay (λ c v hc r=>k2 c v ?_ ?_ r) (λ c q=>by rw[Jq (neP c _ q)];exact q) λ c ys q=>by rw[Jq (neP c _ q)];exact q
     ·rcases hc with z|z
      ·rw[z];exact n1
      ·intro y;rw[y,fe.1] at z;cases z
     ·rcases hc with z|z
      ·rw[z];exact n2
      ·intro y;rw[y,fi.1] at z;cases z
  refine⟨.ref s.heap.objs.size,_,I1,rfl,⟨s.heap.objs.size,x,hn,rfl,rfl,λ ys hy=>by rw[I.list_inj hy hq];exact hx⟩,⟨⟨_,he2⟩,hl2⟩,λ b hb=>?_⟩
  simp only[Z7,ZS,or_false] at hb
  rcases hb with rfl|rfl
  ·rw[Jq (Z8 ltE)];exact fe.1
  ·rw[Jq (Z8 (Z0 hoi))];exact fi.1
 done:=by
  intro X hP hw hK hc i pj s σ H E I hf st hg
  subst hP hw hK
  obtain⟨⟨old,he⟩,hit⟩:=st
  obtain⟨xs,hq,hx⟩:=hg
  obtain⟨its,rv,p,hz⟩:=I.list hq
  obtain⟨f0,f1,f2,f3,f4,f5⟩:=hf it (by simp)
  have hl:=rv.length
  exact wpAny_pyNext_enum_end (I.ok.hd hc) he hit p.isList (by simp;omega) λ h' eb=>⟨rfl,I.turned (t':=s.toks) (λ b o hb e=>eb b o hb e) f0 f1 f3 f4 f5⟩
 self:=λ _ _ _ _ _ st h=>let ⟨_,he⟩:=st.1;wpAny_pyIter_enum he h
noncomputable def Q2 (n:Nat):List IV->List IV
 | []=>[]
 | x::xs=>.tup [.int n,x]::Q2 (n+1) xs
theorem Jg7:∀(xs:List IV)(n k:Nat),(Q2 n xs)[k]?=(xs[k]?).map λ x=>.tup [.int ((n+k:Nat):Int),x]
 | [],_,_=>by simp[Q2]
 | x::xs,n,0=>by simp[Q2]
 | x::xs,n,k+1=>by
  simp only[Q2,ZaE]
  rw[Jg7 xs (n+1) k]
  have:n+1+k=n+(k+1):=by omega
  rw[this]
theorem Xv:∀(xs:List IV)(n:Nat),(Q2 n xs).length=xs.length
 | [],_=>rfl
 | _::xs,n=>by simp[Q2,Xv xs]
def QS:List IV->IH->Res ItI
 | [.ref i],h=>match h[i]? with
  | some (.lst xs)=>.ok ⟨Q2 0 xs,λ h'=>h'[i]?=Za (.lst xs)⟩ h
  | _=>.stuck
 | _,_=>.stuck
theorem Jzt {i:Nat}{ι:List Zp}(ha:ι[i]?=Za a):ItOk ce X.K ι H₀ (Ite X.K a) ⟨Q2 0 xs,λ h'=>h'[i]?=Za (.lst xs)⟩:=by
 refine⟨λ k v h H ι' hp R hck hx=>?_,λ k h H ι' hp R hck hx=>?_⟩
 ·obtain⟨vs,e1,r1⟩:=R.get hck (hp.at ha)
  have hx':(Q2 0 xs)[k]?=Za v:=hx
  rw[Jg7] at hx'
  obtain⟨x,hxk,rfl⟩:=ZF.mp hx'
  obtain⟨u,hu,qu⟩:=r1.get hxk
  refine⟨⟨vs,u,SqL.of e1,hu⟩,λ y H' hy=>?_⟩
  obtain⟨p,x',hp0,rfl,rfl,hy⟩:=hy
  have:=hy vs (SqL.of e1)
  rw[hu] at this
  cases this
  obtain⟨R',n'⟩:=R.grow (o:=.tup [.int (k:Int),u]) hp0
  refine⟨R',n',p,_,rfl,SqT.of J7,⟨_,_,rfl,?_,_,_,rfl,RV.mono n' _ _ qu,rfl⟩⟩
  show V.int (k:Int)=V.int ((0+k:Nat):Int)
  simp
 ·obtain⟨vs,e1,r1⟩:=R.get hck (hp.at ha)
  exact⟨vs,SqL.of e1,by rw[r1.length,<-Xv xs 0];exact hx⟩
theorem Jzk {es:List Expr}{kt:Nat}{pt:Pos}{a:Expr}{ma:A1}{p pos:Pos}(hg:Gl X "enumerate")(hm:X.mg "enumerate"=Zc)(ha:PAi ce X [a] ma)(hs:ZD [a] X.env=[(Zk,ZaY a X.env)]:=by rfl):PIi ce X (.Tuple es kt pt) (.Call (.Name "enumerate" p) [a] [] pos) (iRg QS ma):=by
 intro pj s σ H ι σi h Q E N K
 refine Call_ (Qr N.inv hg hm boot_enumerate (ZaB ?_ hs rfl))
 refine ha pos pj s σ H ι σi h _ E N ?_
 unfold iRg at K
 cases e0:ma σi h with
 | exc n h'=>rw[e0] at K;exact K
 | stuck=>rw[e0] at K;exact K
 | ok vs h' =>
  rw[e0] at K
  intro us s1 H1 ι1 N1 n1 r1
  obtain⟨xs,rv,qs⟩:=r1
  match vs,K with
  | [.ref i],K =>
   obtain⟨w,e1,q⟩:=qs.one_of
   subst e1
   obtain⟨b,e3,hb⟩:=q
   subst e3
   obtain⟨u,rfl,ru⟩:=QN rv
   cases ru
   cases hi:h'[i]? with
   | none=>simp only[Res.bind,QS,hi] at K
   | some ob =>
    cases ob with
    | lst ys =>
     simp only[Res.bind,QS,hi] at K
     obtain⟨ws,eH,rH⟩:=N1.at hi hb
     obtain⟨z,its,n,r,hl,eo⟩:=N1.inv.lstM eH
     refine call_enumerate_1 eo λ h2 he hit hsz kp=>?_
     refine wpAny_pyIter_enum he (K _ _ H1 ι1 ⟨N1.inv.kept (t':=s1.toks) kp,N1.rel,N1.st⟩ n1 ?_)
     refine⟨s1.heap.objs.size+1,[s1.heap.objs.size+1,s1.heap.objs.size],_,Ite X.K b,rfl,Jr0 b s1.heap.objs.size (s1.heap.objs.size+1) (ZaQ (Zaz _)),⟨⟨_,he⟩,hit⟩,λ c hc=>?_,Jzt hb⟩
     simp only[Z7,ZS,or_false] at hc
     rcases hc with rfl|rfl
     ·exact N1.inv.fpOk (ZaL _) (N1.inv.hok.fresh (ZaL _))
     ·exact N1.inv.fpOk (Zq _) (N1.inv.hok.fresh (Zq _))
    | _=>simp only[Res.bind,QS,hi] at K
  | [],K=>exact Zf K
  | .non::_,K=>exact Zf K
  | .bl _::_,K=>exact Zf K
  | .str _::_,K=>exact Zf K
  | .tup _::_,K=>exact Zf K
  | .rol _::_,K=>exact Zf K
  | .int _::_,K=>exact Zf K
  | .ref _::_::_,K=>exact Zf K
end
noncomputable def Xx:IV->IH->Res ItI
 | .str x,h=>Jtg (.str x) h
 | v,h=>itOf v h
def Jw (e:E1):I1:=λ σ h=>(e σ h).bind Xx
theorem Js4 {ce:CeT}{X:Cx}{tg l:Expr}{ml:E1}(hl:PEi ce X l ml):PIi ce X tg l (Jw ml):=by
 intro pj s σ H ι σi h Q E N K
 cases e0:ml σi h with
 | ok v h' =>
  cases v with
  | str x=>exact Joq (tg:=tg) hl pj s σ H ι σi h Q E N (by unfold iStr;unfold Jw at K;rw[e0] at K ⊢;exact K)
  | _=>exact Jql (tg:=tg) hl pj s σ H ι σi h Q E N (by unfold iVal;unfold Jw at K;rw[e0] at K ⊢;exact K)
 | exc n h'=>exact Jql (tg:=tg) hl pj s σ H ι σi h Q E N (by unfold iVal;unfold Jw at K;rw[e0] at K ⊢;exact K)
 | stuck=>exact Jql (tg:=tg) hl pj s σ H ι σi h Q E N (by unfold iVal;unfold Jw at K;rw[e0] at K ⊢;exact K)
section
variable {ce:CeT}{X:Cx}
theorem x_sl:SlI ce X slI:=by
 intro pj s σ H ι σi h x v vl vu lo hi sl Q E N rx hs pl pu K
 obtain⟨xv,rx,qx⟩:=rx
 cases x with
 | ref i =>
  obtain⟨a,e1,ha⟩:=qx
  subst e1
  dsimp only[slI] at K
  cases hi':h[i]? with
  | none=>rw[hi'] at K;exact Zf K
  | some ob =>
   rw[hi'] at K
   cases ob with
   | lst xs =>
    obtain⟨vs,e1,r1⟩:=N.at hi' ha
    exact Jv8 (Jrp (X:=X.wish E)) N.inv rx hs pl pu ⟨a,vs,rfl,SqL.of e1,λ p hp=>finA N K p hp ⟨_,J7,RVs.new hp (r1.cut lo hi)⟩⟩
   | _=>exact Zf K
 | rol xs =>
  obtain⟨a,vs,e1,sa,ra⟩:=qx
  subst e1
  exact Jv8 (Jrp (X:=X.wish E)) N.inv rx hs pl pu ⟨a,vs,rfl,sa.sq,λ p hp=>finA N K p hp ⟨_,J7,RVs.new hp (ra.cut lo hi)⟩⟩
 | _=>exact Zf K
noncomputable def Vh:IV->IH->Res IV
 | .ref i,h=>match h[i]? with
  | some (.lst xs)=>.ok (.ref h.length) (h++[.lst xs])
  | _=>.stuck
 | .rol xs,h=>.ok (.ref h.length) (h++[.lst xs])
 | .tup xs,h=>.ok (.ref h.length) (h++[.lst xs])
 | _,_=>.stuck
theorem Jy0:Qx ce X (.type "list") (on1 Vh):=VD λ pj s σ H ι σi h x xv u Q E N ru qx K=>by
 cases x with
 | ref i =>
  obtain⟨a,e1,ha⟩:=qx
  subst e1
  dsimp only[Vh] at K
  cases hi:h[i]? with
  | none=>rw[hi] at K;exact Zf K
  | some ob =>
   rw[hi] at K
   cases ob with
   | lst xs =>
    obtain⟨vs,e1,r1⟩:=N.at hi ha
    exact QY (Jcx (X:=X.wish E)) N.inv (.cons ru .nil) ⟨a,vs,rfl,.inl (SqL.of e1),λ p hp=>finA N K p hp ⟨_,J7,RVs.new hp r1⟩⟩
   | _=>exact Zf K
 | rol xs =>
  obtain⟨a,vs,e1,sa,ra⟩:=qx
  subst e1
  exact QY (Jcx (X:=X.wish E)) N.inv (.cons ru .nil) ⟨a,vs,rfl,.inl sa.sq,λ p hp=>finA N K p hp ⟨_,J7,RVs.new hp ra⟩⟩
 | tup xs =>
  obtain⟨a,vs,e1,sa,ra⟩:=qx
  subst e1
  exact QY (Jcx (X:=X.wish E)) N.inv (.cons ru .nil) ⟨a,vs,rfl,.inr sa,λ p hp=>finA N K p hp ⟨_,J7,RVs.new hp ra⟩⟩
 | _=>exact Zf K
noncomputable def Xg:IV->IH->Res IV
 | .ref i,h=>match h[i]? with
  | some (.lst xs)=>.ok (.tup xs) h
  | _=>.stuck
 | .tup xs,h=>.ok (.tup xs) h
 | _,_=>.stuck
theorem Jwp:Qx ce X (.type "tuple") (on1 Xg):=VD λ pj s σ H ι σi h x xv u Q E N ru qx K=>by
 cases x with
 | ref i =>
  obtain⟨a,e1,ha⟩:=qx
  subst e1
  dsimp only[Xg] at K
  cases hi:h[i]? with
  | none=>rw[hi] at K;exact Zf K
  | some ob =>
   rw[hi] at K
   cases ob with
   | lst xs =>
    obtain⟨vs,e1,r1⟩:=N.at hi ha
    exact QY (Jet (X:=X.wish E)) N.inv (.cons ru .nil) ⟨a,vs,rfl,.inl ⟨SqL.of e1,λ p hp=>finT N K p hp r1⟩⟩
   | _=>exact Zf K
 | tup xs =>
  have qx':=qx
  obtain⟨a,vs,e1,sa,ra⟩:=qx
  subst e1
  exact QY (Jet (X:=X.wish E)) N.inv (.cons ru .nil) ⟨a,vs,rfl,.inr ⟨sa,fin0 N K qx'⟩⟩
 | _=>exact Zf K
def VV:List IV->Option (List Bool)
 | []=>Za []
 | .bl b::r=>(VV r).map (b:: ·)
 | _::_=>Zc
noncomputable def allI:IV->IH->Res IV
 | .ref i,h=>match h[i]? with
  | some (.lst xs)=>(match VV xs with
   | some bs=>.ok (.bl (bs.all id)) h
   | none=>.stuck)
  | _=>.stuck
 | _,_=>.stuck
theorem Jm0 {K:W.Frag}{ι:List Zp}{H:Hp}:∀{xs:List IV}{bs:List Bool}{vs:List V}{us:List Ze},VV xs=Za bs->RVs K ι H xs vs->Vals vs us->us=bs.map ZcI
 | [],bs,vs,us,e,q,r=>by
  cases e
  have e1:vs=[]:=q
  subst e1
  cases r
  rfl
 | x::xs,bs,vs,us,e,q,r=>by
  obtain⟨v,vr,e1,q1,q2⟩:=q
  subst e1
  cases r with
  | cons r1 r2 =>
   cases x with
   | bl b =>
    obtain⟨b2,e2,rfl⟩:=ZF.mp (show(VV xs).map (b:: ·)=Za bs from e)
    cases (show v=.bl b from q1)
    cases r1
    rw[Jm0 e2 q2 r2]
    rfl
   | _=>cases e
theorem Jpl (bs:List Bool):((ZT bs.length).all λ i=>bs.getD i Zh)=bs.all id:=by
 induction bs with
 | nil=>rfl
 | cons b r ih =>
  rw[ZC,List.range_succ_eq_map,Zar,List.all_map,Zar]
  have e:((ZT r.length).all ((λ i=>(b::r).getD i Zh)∘Nat.succ))=(ZT r.length).all λ i=>r.getD i Zh:=by
   congr 1
  rw[e,ih]
  rfl
theorem J1v (hh:X.A.handled=Zc):Qx ce X (.builtin "all") (on1 allI):=VD λ pj s σ H ι σi h x xv u Q E N ru qx K=>by
 cases x with
 | ref i =>
  obtain⟨a,e1,ha⟩:=qx
  subst e1
  cases ru
  dsimp only[allI] at K
  cases hi:h[i]? with
  | none=>rw[hi] at K;exact Zf K
  | some ob =>
   rw[hi] at K
   cases ob with
   | lst xs =>
    dsimp only at K
    cases hb:VV xs with
    | none=>rw[hb] at K;exact Zf K
    | some bs =>
     rw[hb] at K
     obtain⟨vs,e1,r1⟩:=N.at hi ha
     obtain⟨its,rv,pl,hz⟩:=N.inv.list (SqL.of e1)
     have eu:=Jm0 hb r1 rv
     subst eu
     refine call_all_walk (ZaN pl.isList ?_)
     have hlt:a<s.heap.objs.size:=by obtain⟨o,_,ho,_⟩:=pl;exact Z0 ho
     have ne:a≠s.heap.objs.size:=Z8 hlt
     refine⟨s.heap.objs.size,_,_,_,_,_,λ i=>bs.getD i Zh,rfl,ZbT (prog:=X.prog) (w:=X.w) (A:=X.A.in1) hh s.heap.objs.size a ne (bs.map ZcI).toArray,⟨⟨_,Zz _ rfl,rfl,rfl⟩,?_⟩,?_,λ h' tk kk=>?_⟩
     ·obtain⟨o,n,ho,hc,_,hd⟩:=pl
      exact⟨o,Zg _ ho,hc,n,hd⟩
     ·intro i v s' Q' E' hP hq
      simp only[ZdW,Z1] at hP
      obtain⟨b,hb',rfl⟩:=ZF.mp hP
      refine ZaK ?_
      have:bs.getD i Zh=b:=by simp[List.getD,hb']
      rw[<- this]
      exact hq
     ·rw[show(bs.map ZcI).toArray.size=bs.length by simp,Jpl]
      have I1:Inv X pj σ H { s with heap:=s.heap.push { cls:=.type "list_iterator",data:=.fields #[.ref a,.int 0 0] } }:=N.inv.kept (t':=s.toks) λ b o e=>Zg _ e
      have f:=N.inv.fpOk (Zq _) (N.inv.hok.fresh (Zq _))
      exact fin0 N K rfl _ _ (I1.turned (t':=tk) (it:=s.heap.objs.size) (λ b o hb e=>kk b o (by simpa using hb) e) f.1 f.2.1 f.2.2.2.1 f.2.2.2.2.1 f.2.2.2.2.2) rfl
   | _=>exact Zf K
 | _=>exact Zf K
def MtI (ce:CeT)(X:Cx)(T id:String)(g:IV->List IV->IH->Res IV):Prop :=
 ∀(pj:PnT)(s:Zm)(σ:L2.St)(H:Hp)(ι:List Zp)(σi:ISt)(h:IH)(x:IV)(xs:List IV)(v:Ze)(us:List Ze)(Q:QvT)(E:QvT),Now ce X pj ι σi h σ H s->RU X.K ι H x v->RUs X.K ι H xs us ->
  Kont ce X RU pj ι σi σ H (g x xs h) Q E->Zy (Z9 X.prog X.w) X.A (call (.builtin id) (v::us)) Q E s
def tyOk (T:String):IV->IH->Bool
 | .str _,_=>T=="str"
 | .int _,_=>T=="int"
 | .ref i,h=>match h[i]? with
  | some (.lst _)=>T=="list"
  | some (.dct _)=>T=="dict"
  | _=>Zk
 | .rol _,_=>T=="list"
 | _,_=>Zk
def eBm (T:String)(g:IV->List IV->IH->Res IV)(o:E1)(a:A1):E1:=λ σ h=>(o σ h).bind λ x h1=>if tyOk T x h1=Zh then(a σ h1).bind λ xs h2=>g x xs h2 else .stuck
theorem Jv5 (N:Now ce X pj ι σi h σ H s)(q:RV X.K ι H x xv)(e:tyOk T x h=Zh):tyV X.K T xv H:=by
 cases x with
 | str y=>cases (show xv=.str y from q);exact beq_iff_eq.mp e
 | int y=>cases (show xv=.int y from q);exact beq_iff_eq.mp e
 | rol y =>
  obtain⟨a,vs,rfl,sa,_⟩:=q
  exact .inl ⟨beq_iff_eq.mp e,vs,sa.sq⟩
 | ref i =>
  obtain⟨a,rfl,ha⟩:=q
  cases hi:h[i]? with
  | none=>simp[tyOk,hi] at e
  | some ob =>
   cases ob with
   | lst xs =>
    simp only[tyOk,hi] at e
    obtain⟨vs,e1,_⟩:=N.at hi ha
    exact .inl ⟨beq_iff_eq.mp e,vs,SqL.of e1⟩
   | dct kvs =>
    simp only[tyOk,hi] at e
    obtain⟨vs,e1,_⟩:=N.at hi ha
    exact .inr (.inr (.inl ⟨beq_iff_eq.mp e,.inl ⟨vs,e1⟩⟩))
   | _=>simp[tyOk,hi] at e
 | _=>simp[tyOk] at e
variable {o a:Expr}{es:List Expr}{mo:E1}{ma:A1}{name:Str}{apos cpos:Pos}{T id:String}{g:IV->List IV->IH->Res IV}
theorem i_bm (pa:PlainAttrs T)(slot:Slot T name id)(hty:typeOf (.builtin id)=pure (.type "method_descriptor"))(hm:MtI ce X T id g)(ho:PEi ce X o mo)(ha:PAi ce X (a::es) ma) 
  (hbase:ZcP o name X.env (ZaY o X.env)=ZaY o X.env:=by rfl)
  (hfew:((Zbq cpos (ZD (a::es) X.env)).all (λ x=>!x.1)&&(Zd9 cpos (Zc3 [] X.env)).all (λ x=>x.1.isSome)
   && decide ((a::es).length+([]:List Zej).length+(if ([]:List Zej).isEmpty then 0 else 1)<30))=Zh:=by rfl)
  (hline:(apos.endLine==cpos.line)=Zh:=by rfl) (hs:ZD (a::es) X.env=(Zk,ZaY a X.env)::ZD es X.env:=by rfl) (hplain:(Zbq cpos (ZD es X.env)).any (·.1)=Zk:=by rfl) :
  PEi ce X (.Call (.Attribute o name apos) (a::es) [] cpos) (eBm T g mo ma):=by
 intro pj s σ H ι σi h Q E N K
 refine wpAny_Call_method_late hbase hfew hline rfl (ho.run N K λ x h1 v s1 H1 ι1 N1 n1 r1 K1=>?_)
 by_cases hty1:tyOk T x h1=Zh
 ·rw[if_pos hty1] at K1
  obtain⟨xv,rx,qx⟩:=r1
  obtain⟨h1',h2'⟩:=Jv6 N1.inv rx (Jv5 N1 qx hty1)
  refine⟨T,id,pa,slot,hty,h1',h2',?_⟩
  have hA:=(ha cpos).run (Q1:=λ us s2=>Zy (Z9 X.prog X.w) X.A (call (.builtin id) (v::us)) Q E s2) N1 K1 λ xs h2 us s2 H2 ι2 N2 n2 r2 K2=>hm pj s2 σ H2 ι2 σi h2 x xs v us Q E N2 ⟨xv,rx,RV.mono n2 _ _ qx⟩ r2 K2
  rw[hs] at hA ⊢
  exact ZdO (by show(Zk||(Zbq cpos (ZD es X.env)).any (·.1))=Zk;rw[hplain]<;>rfl) (Calls.evalArgs_plain hA)
 ·rw[if_neg hty1] at K1
  exact Zf K1
theorem J2a (pa:PlainAttrs T)(slot:Slot T name id)(hty:typeOf (.builtin id)=pure (.type "method_descriptor"))(hm:MtI ce X T id g)(ho:PEi ce X o mo) 
  (hbase:ZcP o name X.env (ZaY o X.env)=ZaY o X.env:=by rfl)(hline:(apos.endLine==cpos.line)=Zh:=by rfl):PEi ce X (.Call (.Attribute o name apos) [] [] cpos) (eBm T g mo Jd):=by
 intro pj s σ H ι σi h Q E N K
 refine wpAny_Call_method0_late hbase hline (ho.run N K λ x h1 v s1 H1 ι1 N1 n1 r1 K1=>?_)
 by_cases hty1:tyOk T x h1=Zh
 ·rw[if_pos hty1] at K1
  obtain⟨xv,rx,qx⟩:=r1
  obtain⟨h1',h2'⟩:=Jv6 N1.inv rx (Jv5 N1 qx hty1)
  exact⟨T,id,pa,slot,hty,h1',h2',ZdO rfl (PySem.evalArgs_none (hm pj s1 σ H1 ι1 σi h1 x [] v [] Q E N1 ⟨xv,rx,qx⟩ .nil K1))⟩
 ·rw[if_neg hty1] at K1
  exact Zf K1
theorem Jr1 {pj:PnT}{s:Zm}{σ:L2.St}{H:Hp}{Q:QvT}{E:QvT}{r:V->List V->Hp->VK->Prop}{x:V}{xs:List V}{v:Ze}{us:List Ze}(p:MtM (X.wish E) id r)(I:Inv X pj σ H s)(rx:RelV x v)(rs:Vals xs us)
  (k:r x xs H λ z H'=>∀u s',Inv X pj σ H' s'->RelV z u->Q u s'):Zy (Z9 X.prog X.w) X.A (call (.builtin id) (v::us)) Q E s :=
 Zap (p pj s σ H x xs v us _ (I.wish E) rx rs k) (λ u s' ⟨_,_,I',r,q⟩=>q u s' I'.unwish r) λ _ _ z=>z
theorem finW {b:Zp}{vs ws:List V}{w:V}(N:Now ce X pj ι σi h σ H s)(K:Kont ce X RU pj ι σi σ H (.ok v (h.set i (.lst ys))) Q E) 
  (hb:ι[i]?=Za b)(eH:H b=Za (.lst vs))(r:RVs X.K ι H ys ws)(q:RV X.K ι H v w):∀u s',Inv X pj σ (upd H b (.lst ws)) s'->RelV w u->Q u s':=λ u s' I ru=>by
 have n:Nxt ι H ι (upd H b (.lst ws)):=⟨⟨[],by simp⟩,Ext.upd_mut eH (by rw[eH];exact Zat)⟩
 obtain⟨R,_⟩:=N.rel.write (o:=.lst ws) (io:=.lst ys) hb eH (by rw[eH];exact Zat) ⟨_,J7,RVs.mono n _ _ r⟩
 exact K u s' _ ι ⟨I,R,N.st.mono n⟩ n ⟨w,ru,RV.mono n _ _ q⟩
def VT:IV->List IV->IH->Res IV
 | .ref i,[y],h=>match h[i]? with
  | some (.lst xs)=>if xs.length<sizeLine then .ok .non (h.set i (.lst (xs++[y]))) else .stuck
  | _=>.stuck
 | _,_,_=>.stuck
theorem Jtl:MtI ce X "list" "list.append" VT:=by
 intro pj s σ H ι σi h x xs v us Q E N rx rs K
 obtain⟨xv,rx,qx⟩:=rx
 obtain⟨vs,rv,qs⟩:=rs
 cases x with
 | ref i =>
  match xs,K with
  | [y],K =>
   obtain⟨a,rfl,ha⟩:=qx
   obtain⟨w,rfl,qw⟩:=qs.one_of
   dsimp only[VT] at K
   cases hi:h[i]? with
   | none=>rw[hi] at K;exact Zf K
   | some ob =>
    rw[hi] at K
    cases ob with
    | lst zs =>
     dsimp only at K
     split at K
     ·rename_i hz
      obtain⟨ws,e1,r1⟩:=N.at hi ha
      exact Jr1 (Jk9 (X:=X.wish E)) N.inv rx rv ⟨a,ws,w,rfl,rfl,e1,by rw[r1.length];exact hz,finW N K ha e1 (r1.append (RVs.one qw)) rfl⟩
     ·exact Zf K
    | _=>exact Zf K
  | [],K=>exact Zf K
  | _::_::_,K=>exact Zf K
 | _=>cases xs<;>exact Zf K
def setI:IV->IV->IV->ISt->IH->SRes
 | .ref i,.int k,v,σ,h=>match h[i]? with
  | some (.lst xs)=>(match ixN xs.length k with
   | some j=>.next σ (h.set i (.lst (xs.set j v)))
   | none=>.stuck)
  | _=>.stuck
 | _,_,_,_,_=>.stuck
end
section
variable {ce:CeT}{X:Cx}
noncomputable def keyI:IV->Option Key
 | .int i=>Za (.inl i)
 | .str x=>Za (.inr x)
 | _=>Zc
theorem Jga {K:W.Frag}{ι:List Zp}{H:Hp}{x:IV}{v:V}{k:Key}(e:keyI x=Za k)(r:RV K ι H x v):v=kV k:=by
 cases x with
 | int i=>cases e;exact r
 | str y=>cases e;exact r
 | _=>cases e
def maxI:IV->IV->IH->Res IV
 | .int i,.int j,h=>.ok (.int (if j>i then j else i)) h
 | _,_,_=>.stuck
def minI:IV->IV->IH->Res IV
 | .int i,.int j,h=>.ok (.int (if j<i then j else i)) h
 | _,_,_=>.stuck
theorem J1x (hc:X.calm=Zh):Qx ce X (.builtin "max") (on2 maxI):=by
 intro pj s σ H ι σi h xs us Q E N r K
 obtain⟨vs,rv,q⟩:=r
 match xs,K with
 | [x,y],K =>
  obtain⟨v,w,rfl,qx,qy⟩:=q.two_of
  cases x with
  | int i =>
   cases y with
   | int j =>
    cases (show v=.int i from qx)
    cases (show w=.int j from qy)
    exact QY (Jpz (X:=X.wish E) hc) N.inv rv ⟨i,j,rfl,fin0 N K rfl⟩
   | _=>exact Zf K
  | _=>cases y<;>exact Zf K
 | [],K=>exact Zf K
 | [_],K=>exact Zf K
 | _::_::_::_,K=>exact Zf K
theorem J1y (hc:X.calm=Zh):Qx ce X (.builtin "min") (on2 minI):=by
 intro pj s σ H ι σi h xs us Q E N r K
 obtain⟨vs,rv,q⟩:=r
 match xs,K with
 | [x,y],K =>
  obtain⟨v,w,rfl,qx,qy⟩:=q.two_of
  cases x with
  | int i =>
   cases y with
   | int j =>
    cases (show v=.int i from qx)
    cases (show w=.int j from qy)
    exact QY (Jp0 (X:=X.wish E) hc) N.inv rv ⟨i,j,rfl,fin0 N K rfl⟩
   | _=>exact Zf K
  | _=>cases y<;>exact Zf K
 | [],K=>exact Zf K
 | [_],K=>exact Zf K
 | _::_::_::_,K=>exact Zf K
noncomputable def Qt:List IV->Option (List Str)
 | []=>Za []
 | .str x::r=>(Qt r).map (x:: ·)
 | _=>Zc
theorem Jmv {K:W.Frag}{ι:List Zp}{H:Hp}:∀{xs:List IV}{zs:List Str}{vs:List V}{us:List Ze},Qt xs=Za zs->RVs K ι H xs vs->Vals vs us->∃l:List (Str×Tok),us=ZeA l/\l.map (·.1)=zs
 | [],zs,vs,us,e,q,r=>by
  cases e
  have e1:vs=[]:=q
  subst e1
  cases r
  exact⟨[],rfl,rfl⟩
 | x::xs,zs,vs,us,e,q,r=>by
  obtain⟨v,vr,e1,q1,q2⟩:=q
  subst e1
  cases r with
  | cons r1 r2 =>
   cases x with
   | str y =>
    obtain⟨z2,e2,rfl⟩:=ZF.mp (show(Qt xs).map (y:: ·)=Za zs from e)
    cases (show v=.str y from q1)
    obtain⟨t,rfl⟩:=r1
    obtain⟨l,rfl,hl⟩:=Jmv e2 q2 r2
    exact⟨(y,t)::l,rfl,by rw[Z6,hl]⟩
   | _=>cases e
def Xy:IV->List IV->IH->Res IV
 | .str x,[.ref i],h=>match h[i]? with
  | some (.lst xs)=>(match Qt xs with
   | some zs=>if JoinOk x zs=Zh then .ok (.str (Txt.join x zs)) h else .stuck
   | none=>.stuck)
  | _=>.stuck
 | _,_,_=>.stuck
theorem Jz9:MtI ce X "str" "str.join" Xy:=by
 intro pj s σ H ι σi h x xs v us Q E N rx rs K
 obtain⟨xv,rx,qx⟩:=rx
 obtain⟨vs,rv,qs⟩:=rs
 cases x with
 | str x =>
  cases (show xv=.str x from qx)
  obtain⟨t,rfl⟩:=rx
  match xs,K with
  | [.ref i],K =>
   obtain⟨w,rfl,a,rfl,ha⟩:=qs.one_of
   obtain⟨u,rfl,ru⟩:=QN rv
   cases ru
   dsimp only[Xy] at K
   cases hi:h[i]? with
   | none=>rw[hi] at K;exact Zf K
   | some ob =>
    rw[hi] at K
    cases ob with
    | lst ys =>
     dsimp only at K
     cases hb:Qt ys with
     | none=>rw[hb] at K;exact Zf K
     | some zs =>
      rw[hb] at K
      dsimp only at K
      split at K
      ·rename_i hz
       obtain⟨ws,e1,r1⟩:=N.at hi ha
       obtain⟨its,rv',pl,_⟩:=N.inv.list (SqL.of e1)
       obtain⟨l,rfl,hl⟩:=Jmv hb r1 rv'
       exact SC.join pl.isList hl hz λ t' k=>fin0 N K rfl _ _ (N.inv.tok _) ⟨_,rfl⟩
      ·exact Zf K
    | _=>exact Zf K
  | [],K=>exact Zf K
  | [.non],K=>exact Zf K
  | [.bl _],K=>exact Zf K
  | [.int _],K=>exact Zf K
  | [.str _],K=>exact Zf K
  | [.tup _],K=>exact Zf K
  | [.rol _],K=>exact Zf K
  | y::_::_,K=>cases y<;>exact Zf K
 | _=>exact Zf K
end
noncomputable def JH:List IV->Option (List Int)
 | []=>Za []
 | .int i::r=>(JH r).map (i:: ·)
 | _=>Zc
theorem Vy {K:W.Frag}{ι:List Zp}{H:Hp}:∀{xs:List IV}{ns:List Int}{vs:List V}{us:List Ze},JH xs=Za ns->RVs K ι H xs vs->Vals vs us->ZbD us ns
 | [],ns,vs,us,e,q,r=>by
  cases e
  have e1:vs=[]:=q
  subst e1
  cases r
  exact .nil
 | x::xs,ns,vs,us,e,q,r=>by
  obtain⟨v,vr,e1,q1,q2⟩:=q
  subst e1
  cases r with
  | cons r1 r2 =>
   cases x with
   | int i =>
    obtain⟨n2,e2,rfl⟩:=ZF.mp (show(JH xs).map (i:: ·)=Za ns from e)
    cases (show v=.int i from q1)
    obtain⟨t,rfl⟩:=r1
    exact .cons i t (Vy e2 q2 r2)
   | _=>cases e
theorem Yo:∀{us:List Ze}{ns:List Int},ZbD us ns->us.length=ns.length
 | _,_,.nil=>rfl
 | _,_,.cons _ _ r=>by simp[Yo r]
section
variable {ce:CeT}{X:Cx}
noncomputable def sumI:IV->IH->Res IV
 | .ref i,h=>match h[i]? with
  | some (.lst xs)=>(match JH xs with
   | some ns=>.ok (.int ns.sum) h
   | none=>.stuck)
  | _=>.stuck
 | _,_=>.stuck
theorem J1z (hh:X.A.handled=Zc):Qx ce X (.builtin "sum") (on1 sumI):=VD λ pj s σ H ι σi h x xv u Q E N ru qx K=>by
 cases x with
 | ref i =>
  obtain⟨a,e1,ha⟩:=qx
  subst e1
  cases ru
  dsimp only[sumI] at K
  cases hi:h[i]? with
  | none=>rw[hi] at K;exact Zf K
  | some ob =>
   rw[hi] at K
   cases ob with
   | lst xs =>
    dsimp only at K
    cases hb:JH xs with
    | none=>rw[hb] at K;exact Zf K
    | some ns =>
     rw[hb] at K
     obtain⟨vs,e1,r1⟩:=N.at hi ha
     obtain⟨its,rv,pl,hz⟩:=N.inv.list (SqL.of e1)
     have are:=Vy hb r1 rv
     obtain⟨ys,hy⟩:=are.allInts.items
     have pl':s.heap.IsList a (intItems ys):=hy▸pl.isList
     refine sum_intListG hh pl' λ h2 tk t2 kk=>?_
     have en:ns=ys.toList.map (·.1):=by
      have q1:=are.numsOf
      have q2:=congrArg (λ z:Array Ze=>numsOf z.toList) hy
      simp only at q2
      rw[<- q1]
      exact q2.trans (nums_intItems ys)
     have es:preSum (numAt ys) ys.size=ns.sum:=by
      rw[preSum_eq,en,Zbb (by simp)]
     rw[es]
     exact fin0 N K rfl _ _ (N.inv.kept (t':=tk) kk) ⟨_,rfl⟩
   | _=>exact Zf K
 | _=>exact Zf K
end
def JJ (f:Nat->Int):Nat->Int
 | 0=>0
 | 1=>f 0
 | j+2=>if f (j+1)>JJ f (j+1) then f (j+1) else JJ f (j+1)
theorem Jdb (f:Nat->Int)(hj:0<j):JJ f (j+1)=if f j>JJ f j then f j else JJ f j:=by
 cases j with
 | zero=>omega
 | succ j=>rfl
section
variable {pr:ZB}{wd:Zab}{B:ZN}{R:ZdK->Zm->Prop}{it:Zp}{fps wrs:List Zp}{n:Nat}{P:Nat->Ze->Prop}{St:Nat->Zax->Prop}
abbrev Jvr (v:Ze)(c:Nat):Obj:={ cls:=.type "list",dict:=Zc,data:=.seq #[v,v] c,slots:=#[] }
theorem VL:(toString "max"++toString ".loop":String)="max.loop":=by decide
theorem Jxo {kw:List (Str×Ze)}(W:Walks pr wd B.in1 it fps wrs n P St)(f:Nat->Int)(hf:∀i v,P i v->∃t,v=.int (f i) t)(C:Zp)(hC:C∉fps) :
  ∀(r j:Nat)(z:Zm)(v:Ze)(u:Tok)(c:Nat),n-j=r->0<j->j<=n->St j z.heap->v=.int (JJ f j) u->z.heap.get? C=Za (Jvr v c) ->
   (∀u h2 tk,(∀a o,a∉wrs->a≠C->z.heap.get? a=Za o->h2.get? a=Za o)->R (.ok (.ret (.int (JJ f n) u))) { z with heap:=h2,toks:=tk }) ->
   Zcv (Z9 pr wd) B (.builtin "max.loop" ⟨[.ref it,.none,.ref C],kw⟩) R z:=by
 have hw:C∉wrs:=λ q=>hC (W.sub _ q)
 intro r
 induction r with
 | zero =>
  intro j z v u c hr h0 hj st ev gC fin
  obtain rfl:j=n:=by omega
  subst ev
  refine Zal Zbc ?_
  rw[ZO ZP _]
  show Zy _ B.in1 (Zb2 (.ref C)>>=_) _ _ z
  refine Zd (ZaG gC rfl ?_)
  show Zy _ B.in1 (tryCatch (ZbG (.ref it)) _>>=_) _ _ z
  refine Zd (ZV (W.done z _ _ st λ h2 tk keep=>?_))
  have gC2:=keep C _ hw gC
  show Zy _ B.in1 (ZcO C (λ _=>#[])>>=_) _ _ _
  refine Zd ?_
  refine Za6 gC2 rfl (Zd (Za8 (Zw ?_)))
  exact fin u _ tk λ a o ha hb e=>(Zs _ _ (ZI hb)).trans (keep a o ha e)
 | succ r ih =>
  intro j z v u c hr h0 hj st ev gC fin
  have lt:j<n:=by omega
  subst ev
  refine Zal Zbc ?_
  rw[ZO ZP _]
  show Zy _ B.in1 (Zb2 (.ref C)>>=_) _ _ z
  refine Zd (ZaG gC rfl ?_)
  show Zy _ B.in1 (tryCatch (ZbG (.ref it)) _>>=_) _ _ z
  refine Zd (ZV (W.item j z _ _ lt st λ y h2 tk hP st2 keep=>?_))
  obtain⟨t,rfl⟩:=hf j y hP
  have gC2:=keep C _ hw gC
  have cmp:=CmpOf.ints_gt (prog:=pr) (w:=wd) (A:=B.in1) (P:=λ i v=>∃t,v=.int (if i=0 then f j else JJ f j) t) (λ i=>if i=0 then f j else JJ f j) (λ _ _ q=>q)
  show Zy _ B.in1 (tryCatch (Zb7 [ZbZ (f j) t,ZbZ (f j) t] (Zcg .Gt (.int (f j) t) (.int (JJ f j) u)>>=_)) _>>=_) _ _ _
  refine Zd (ZV (ZU (Zd (cmp 0 1 _ _ _ _ _ ⟨t,by simp⟩ ⟨u,by simp⟩ ?_))))
  refine Zd (ZU (ZaK ?_))
  refine Zd (Za8 (Zw ?_))
  have step:=Jdb f h0
  by_cases hb:f j>JJ f j
  ·rw[if_pos hb] at step
   simp only[if_true,show ¬(1:Nat)=0 by decide,if_false,decide_eq_true hb]
   refine Zd ?_
   refine Za6 gC2 rfl (Zd (Za8 ?_))
   rw[VL]
   refine Zw ⟨Zas ZP _,ih (j+1) _ (.int (f j) t) t _ (by omega) (by omega) lt (W.frame _ _ _ st2 λ a ha o e=>?_) (by rw[step]) (Za9 _ gC2 rfl) λ u2 h3 tk3 k3=>?_⟩
   ·exact(Zs _ _ (λ q:C=a=>hC (by rw[q];exact ha))).trans e
   ·exact fin u2 h3 tk3 λ a o ha hc e=>k3 a o ha hc ((Zs _ _ (ZI hc)).trans (keep a o ha e))
  ·rw[if_neg hb] at step
   simp only[if_true,show ¬(1:Nat)=0 by decide,if_false,decide_eq_false hb,ZW]
   refine Zd (Za8 ?_)
   rw[VL]
   refine Zw ⟨Zas ZP _,ih (j+1) _ (.int (JJ f j) u) u c (by omega) (by omega) lt st2 (by rw[step]) gC2 λ u2 h3 tk3 k3=>?_⟩
   exact fin u2 h3 tk3 λ a o ha hc e=>k3 a o ha hc (keep a o ha e)
end
theorem Jpn (a v:Ze):ZdP "max" ⟨[a],[(Zae "default",v)]⟩:=by unfold ZdP;kernel_rfl
section
variable {pr:ZB}{wd:Zab}{B:ZN}{E:QvT}{z:Zm}{l:Zp}{us:List Ze}{ns:List Int}{d:Option Ze}{Q:QvT}{kw:List (Str×Ze)}
def J1r (ns:List Int)(d:Option Ze)(v:Ze):Prop:=(ns=[]/\d=Za v)∨(ns≠[]/\∃u,v=.int (JJ (λ i=>ns.getD i 0) ns.length) u)
theorem Jra (hk:Zaq "max" ["key","default"] 0 ⟨[],kw⟩=pure [Zc,d])(ha:ZdP "max" ⟨[.ref l],kw⟩)(hn:ns=[]->∃v,d=Za v)(hh:B.handled=Zc)(hl:z.heap.IsList l us.toArray)(hi:ZbD us ns) 
  (hQ:∀v h2 tk,J1r ns d v->(∀b o,z.heap.get? b=Za o->h2.get? b=Za o)->Q v { z with heap:=h2,toks:=tk }) :
  Zy (Z9 pr wd) B (call (.builtin "max") [.ref l] kw) Q E z:=by
 obtain⟨ol,hol,_⟩:=id hl
 have lt:l<z.heap.objs.size:=Z0 hol
 have ll:=Yo hi
 refine kmk_tree PySem.F.kind_max PySem.F.plain_max PySem.F.entry_max ha ?_
 show Zy _ B.in1 (Zaq "max" ["key","default"] 0 ⟨[],kw⟩>>=_) _ _ z
 refine Zd (Zed hk ?_)
 refine Zd (Zw ?_)
 refine Zd (ZaN hl ?_)
 refine Zd (Zcb ?_ (ZY _))
 rw[VL]
 have ne:l≠z.heap.objs.size:=Z8 lt
 have W:=ZbT (prog:=pr) (w:=wd) (A:=B.in1) hh z.heap.objs.size l ne us.toArray
 have sz:us.toArray.size=us.length:=Zu ..
 have hS:(z.heap.push { cls:=.type "list_iterator",data:=.fields #[.ref l,.int 0 0] }).objs.size=z.heap.objs.size+1:=Zdn ..
 have hC:(z.heap.push { cls:=.type "list_iterator",data:=.fields #[.ref l,.int 0 0] }).objs.size∉[z.heap.objs.size,l]:=by
  rw[hS]
  simp only[Z7,ZS,or_false,not_or]
  exact⟨ZaQ (Zaz _),ZaQ (Zb8 lt)⟩
 have hw:(z.heap.push { cls:=.type "list_iterator",data:=.fields #[.ref l,.int 0 0] }).objs.size∉[z.heap.objs.size]:=by
  rw[hS]
  simp only[Z7,ZS,or_false]
  exact ZaQ (Zaz _)
 have old:∀b o,z.heap.get? b=Za o->((z.heap.push { cls:=.type "list_iterator",data:=.fields #[.ref l,.int 0 0] }).push (Zaf "list" #[] 0)).get? b=Za o:=λ b o e=>Zg _ (Zg _ e)
 have gI:((z.heap.push { cls:=.type "list_iterator",data:=.fields #[.ref l,.int 0 0] }).push (Zaf "list" #[] 0)).get? z.heap.objs.size=Za { cls:=.type "list_iterator",data:=.fields #[.ref l,.int 0 0] }:=Zg _ (Zz _ rfl)
 have gC:((z.heap.push { cls:=.type "list_iterator",data:=.fields #[.ref l,.int 0 0] }).push (Zaf "list" #[] 0)).get? (z.heap.push { cls:=.type "list_iterator",data:=.fields #[.ref l,.int 0 0] }).objs.size=Za (Zaf "list" #[] 0):=Zz _ rfl
 have notin:∀b o,z.heap.get? b=Za o->b∉[z.heap.objs.size]:=λ b o e q=>Z8 (Z0 e) (Zv.mp q)
 have notC:∀b o,z.heap.get? b=Za o->b≠(z.heap.push { cls:=.type "list_iterator",data:=.fields #[.ref l,.int 0 0] }).objs.size:=λ b o e=>by rw[hS];exact Z8 (Zb8 (Z0 e))
 refine Zw ⟨Zas ZP _,Zal Zbc ?_⟩
 rw[ZO ZP _]
 show Zy _ B.in1 (Zb2 (.ref _)>>=_) _ _ _
 refine Zd (ZaG gC rfl ?_)
 show Zy _ B.in1 (tryCatch (ZbG (.ref z.heap.objs.size)) _>>=_) _ _ _
 by_cases h0:us.length=0
 ·refine Zd (ZV (W.done _ _ _ (by rw[sz,h0];exact⟨⟨_,gI,rfl,rfl⟩,(hl.push _).push _⟩) λ h2 tk keep=>?_))
  obtain⟨v,rfl⟩:=hn (ZaM (by omega))
  show Zy _ B.in1 (rule _>>=_) _ _ _
  refine Zd (ZdQ (Zw ?_))
  refine hQ v h2 tk (.inl ⟨ZaM (by omega),rfl⟩) λ b o e=>keep b o (notin b o e) (old b o e)
 ·refine Zd (ZV (W.item 0 _ _ _ (by rw[sz];omega) ⟨⟨_,gI,rfl,rfl⟩,(hl.push _).push _⟩ λ y h2 tk hP st2 keep=>?_))
  have gC2:=keep _ _ hw gC
  show Zy _ B.in1 (ZcO (z.heap.push { cls:=.type "list_iterator",data:=.fields #[.ref l,.int 0 0] }).objs.size (λ _=>#[y,y])>>=_) _ _ _
  refine Zd ?_
  refine Za6 gC2 rfl ?_
  rw[VL]
  have hf:∀(i:Nat)(v:Ze),us.toArray[i]?=Za v->∃t,v=.int ((λ i=>ns.getD i 0) i) t:=λ i v q=>Zee hi i v (by simpa using q)
  obtain⟨t,rfl⟩:=hf 0 y hP
  refine Zw ⟨Zas ZP _,Jxo W (λ i=>ns.getD i 0) hf _ hC _ 1 _ _ t _ rfl (by decide) (by rw[sz];omega) (W.frame _ _ _ st2 λ a ha o e=>?_) rfl (Za9 _ gC2 rfl) λ u h3 tk3 k3=>?_⟩
  ·exact(Zs _ _ (λ q=>hC (by rw[q];exact ha))).trans e
  ·rw[sz,ll]
   refine hQ _ h3 tk3 (.inr ⟨λ q=>h0 (by rw[ll,q];rfl),u,rfl⟩) λ b o e=>k3 b o (notin b o e) (notC b o e) ((Zs _ _ (ZI (notC b o e))).trans (keep b o (notin b o e) (old b o e)))
end
section
variable {ce:CeT}{X:Cx}
def maxD (ns:List Int)(d:IV):IV:=if ns=[] then d else .int (JJ (λ i=>ns.getD i 0) ns.length)
def Yg (aa:A1)(md:E1):E1:=λ σ h=>(aa σ h).bind λ xs h1=>(md σ h1).bind λ d h2=>match xs with
 | [.ref i]=>(match h2[i]? with
  | some (.lst ys)=>(match JH ys with
   | some ns=>.ok (maxD ns d) h2
   | none=>.stuck)
  | _=>.stuck)
 | _=>.stuck
theorem Jzn {a de:Expr}{aa:A1}{md:E1}{p pos kp:Pos}(hh:X.A.handled=Zc)(hg:Gl X "max")(hm:X.mg "max"=Zc)(ha:PAi ce X [a] aa)(hd:PEi ce X de md)(hs:ZD [a] X.env=[(Zk,ZaY a X.env)]) :
  PEi ce X (.Call (.Name "max" p) [a] [⟨Za "default",de,kp⟩] pos) (Yg aa md):=λ pj s σ H ι σi h Q E N K=>by
 refine Zaj (Qr N.inv hg hm rfl ?_)
 refine Zef ?_ (by rw[hs];rfl) (by rw[hs];rfl) rfl rfl
 refine(ha pos).run N K λ xs h1 us s1 H1 ι1 N1 n1 r1 K1=>?_
 refine ZaI (Zd (PX.run hd N1 K1 λ d h2 du s2 H2 ι2 N2 n2 r2 K2=>Zd (Zbo (Zw (ZbC ?_)))))
 obtain⟨vs,rv,qs⟩:=r1.mono n2
 match xs,K2 with
 | [.ref i],K2 =>
  obtain⟨w,rfl,ad,rfl,hav⟩:=qs.one_of
  obtain⟨u,rfl,ru⟩:=QN rv
  cases ru
  dsimp only at K2
  cases hi:h2[i]? with
  | none=>rw[hi] at K2;exact Zf K2
  | some ob =>
   rw[hi] at K2
   cases ob with
   | lst ys =>
    dsimp only at K2
    cases hb:JH ys with
    | none=>rw[hb] at K2;exact Zf K2
    | some ns =>
     rw[hb] at K2
     dsimp only at K2
     obtain⟨ws,e1,r3⟩:=N2.at hi hav
     obtain⟨its,rv2,pl,_⟩:=N2.inv.list (SqL.of e1)
     refine Jra (d:=Za du) rfl (Jpn _ _) (λ _=>⟨_,rfl⟩) hh pl.isList (Vy hb r3 rv2) λ v h3 tk mi kk=>?_
     have N3:Now ce X pj ι2 σi h2 σ H2 { s2 with heap:=h3,toks:=tk }:=⟨N2.inv.kept (t':=tk) kk,N2.rel,N2.st⟩
     rcases mi with⟨e,ev⟩|⟨e,t,rfl⟩
     ·cases ev
      have em:maxD ns d=d:=if_pos e
      rw[em] at K2
      exact K2 _ _ _ _ N3 .refl r2
     ·have em:maxD ns d=.int (JJ (λ i=>ns.getD i 0) ns.length):=if_neg e
      rw[em] at K2
      exact K2 _ _ _ _ N3 .refl ⟨.int _,⟨t,rfl⟩,rfl⟩
   | _=>exact Zf K2
 | [],K2=>exact Zf K2
 | [.non],K2=>exact Zf K2
 | [.bl _],K2=>exact Zf K2
 | [.int _],K2=>exact Zf K2
 | [.str _],K2=>exact Zf K2
 | [.tup _],K2=>exact Zf K2
 | [.rol _],K2=>exact Zf K2
 | x::_::_,K2=>cases x<;>exact Zf K2
end
def metB (f:Nat->Str)(i:Nat)(k:Str):Bool:=(ZT i).any λ j=>decide (k=f j)
def cntD (f:Nat->Str):Nat->Nat
 | 0=>0
 | i+1=>if metB f i (f i) then cntD f i else cntD f i+1
theorem Jq7 (f:Nat->Str)(i:Nat)(k:Str):metB f (i+1) k=(metB f i k||decide (k=f i)):=by simp[metB,List.range_succ]
theorem Jl5 (f:Nat->Str):∀i,cntD f i<=i
 | 0=>Zq _
 | i+1=>by
  have:=Jl5 f i
  unfold cntD
  split<;>omega
section
variable {pr:ZB}{wd:Zab}{B:ZN}{R:ZdK->Zm->Prop}{it:Zp}{fps wrs:List Zp}{G:Array Zey->Array Zey->Prop}{n:Nat}{P:Nat->Ze->Prop}{St:Nat->Zm->Prop}
abbrev Vs (pr:ZB)(wd:Zab)(hp:Zax)(a:Zp)(f:Nat->Str)(i:Nat):Prop:=hp.SetOf (ZcQ pr wd) a (λ k=>metB f i k) (cntD f i)
theorem Vs.moved {hp h2:Zax}(q:Vs pr wd hp a f i)(m:∀o,hp.get? a=Za o->h2.get? a=Za o):Vs pr wd h2 a f i:=by
 obtain⟨o,es,ep,t,ho,rest⟩:=q
 exact⟨o,es,ep,t,m o ho,rest⟩
theorem Jt7 (W:WalksS pr wd B.in1 it fps wrs G n P St)(C:Zp)(hC:C∉fps)(f:Nat->Str)(hf:∀i v,P i v->∃t,v=.str (f i) t)(room:n+1<Zcm) :
  ∀(r i:Nat)(z:Zm),n-i=r->i<=n->St i z->Vs pr wd z.heap C f i->(∀z2,Moved (C::wrs) G z z2->Vs pr wd z2.heap C f n->R (.ok (.ret .none)) z2) ->
   Zcv (Z9 pr wd) B (.builtin "set.update.loop" ⟨[.ref C,.ref it],[]⟩) R z:=by
 have nw:C∉wrs:=λ q=>hC (W.sub _ q)
 have more:∀b∈wrs,b∈C::wrs:=λ b q=>Zn _ q
 intro r
 induction r with
 | zero =>
  intro i z hr hi st hS fin
  obtain rfl:i=n:=by omega
  refine Zal Zcp ?_
  rw[ZO Zbu _]
  show Zy _ B.in1 (ZbG (.ref it)>>=_) _ _ z
  refine Zd (W.done z _ _ st λ z2 mv=>?_)
  show Zy _ B.in1 (ret Zaa) _ _ z2
  exact Zw (fin z2 (mv.mono more) (hS.moved λ o e=>mv.heap C _ nw e))
 | succ r ih =>
  intro i z hr hi st hS fin
  have lt:i<n:=by omega
  refine Zal Zcp ?_
  rw[ZO Zbu _]
  show Zy _ B.in1 (ZbG (.ref it)>>=_) _ _ z
  refine Zd (W.item i z _ _ lt st λ v z2 hP st2 mv=>?_)
  obtain⟨t,rfl⟩:=hf i v hP
  have hS2:Vs pr wd z2.heap C f i:=hS.moved λ o e=>mv.heap C _ nw e
  have ki:(ZcQ pr wd).is (f i) (.str (f i) t)=Zh:=strKind_is _ _ _ _
  show Zy _ B.in1 (Zb7 [Zei (f i) t] (setAdd C (.str (f i) t))>>=_) _ _ z2
  refine Zd (ZU ?_)
  unfold setAdd
  refine ZU ?_
  refine Zd ((ZcQ pr wd).pyHash (k:=f i) ki ?_)
  have rm:cntD f i+1<Zcm:=by have:=Jl5 f i;omega
  refine wpAny_setAddHashed_of (knd:=ZcQ pr wd) (s:={ z2 with toks:=z2.toks+1 }) ki rfl hS2 rm λ h3 sb hS3=>?_
  have hS4:Vs pr wd h3 C f (i+1):=SetOf_congr hS3 (λ k=>(Jq7 f i k).symm) (by show _=cntD f (i+1);rfl)
  refine Zw ⟨Zas Zbu _,ih (i+1) _ (by omega) lt (W.frame _ z2 _ _ st2 (ZaL _) λ b q o e=>?_) hS4 λ z5 m5 hS5=>?_⟩
  ·rw[sb.2 b (λ e2:b=C=>hC (by rw[<- e2];exact q))];exact e
  ·refine fin z5 (Moved.trans W.gtrans ((mv.mono more).then_heap (ZaL _) λ b o q e=>?_) m5) hS5
   rw[sb.2 b (λ e2:b=C=>q (by rw[e2];exact Z4))];exact e
end
section
variable {pr:ZB}{wd:Zab}{B:ZN}{E:QvT}{z:Zm}{l:Zp}{us:List Ze}{zs:List Str}{Q:QvT}
abbrev QT (led:Bool):Obj:={ cls:=.type "set",dict:=Zc,data:=.set #[] 0 (.fresh 0 0 led) }
abbrev QJ (zs:List Str):Nat->Str:=λ i=>zs.getD i Str.empty
set_option maxRecDepth 100000 in
theorem Jt5 {l2:List (Str×Tok)}(hh:B.handled=Zc)(hl:z.heap.IsList l us.toArray)(eu:us=ZeA l2)(ez:l2.map (·.1)=zs)(room:zs.length+1<Zcm)
  (fin:∀(h2:Zax)(tk:Nat),Vs pr wd h2 z.heap.objs.size (QJ zs) zs.length->(∀b o,z.heap.get? b=Za o->h2.get? b=Za o)->Q (.ref z.heap.objs.size) { z with heap:=h2,toks:=tk }) :
  Zy (Z9 pr wd) B (call (.type "set") [.ref l]) Q E z:=by
 have len:us.toArray.size=zs.length:=by rw[eu,<-ez];simp[ZeA]
 have vals:∀(i:Nat)(v:Ze),us.toArray[i]?=Za v->∃t,v=.str (QJ zs i) t:=λ i v q=>by
  rw[eu] at q
  simp only[ZeA,ZdW,Z1] at q
  obtain⟨p,hp,rfl⟩:=ZF.mp q
  refine⟨p.2,?_⟩
  rw[<- ez]
  simp[QJ,Zl,Z1,hp]
 obtain⟨c,tl,hmro⟩:=PySem.F.called_set.mro
 have hmade:=PySem.F.called_set.made
 have hsub:=PySem.F.called_set.sub
 refine Zew (codeAny_of_tree ?_)
 show Zy _ _ (callAny (.type "set") _) _ _ _
 refine Zw ⟨Code.quiet_builtin _ (by decide +kernel),Zal PySem.F.entry_type_call ?_⟩
 rw[Around.under_plain (weight_type_call_type "set" [.ref l] []) rfl]
 have no1:=PySem.F.called_set.notType
 have no2:=PySem.F.called_set.canCreate
 have ok1:=PySem.F.typeCall_set_1 (.ref l)
 repeat (any_goals (first|assumption|wp_step))
 refine ZcB (code_set_new_1 (.ref l) (E:=E) (Q₁:=λ obj z1=>∃led:Bool,obj=.ref z.heap.objs.size/\z1={ z with heap:=z.heap.push (QT led) }) λ led=>⟨led,rfl,rfl⟩) λ res z1 hr=>?_
 cases res with
 | error e=>exact hr
 | ok fl =>
  cases fl with
  | ret obj =>
   obtain⟨led,rfl,rfl⟩:=hr
   have gS:(z.heap.push (QT led)).get? z.heap.objs.size=Za (QT led):=Zz _ rfl
   have tS:Shared.TypeIs { z with heap:=z.heap.push (QT led) } (.ref z.heap.objs.size) "set":=⟨_,gS,rfl⟩
   have in1:=PySem.F.called_set.init.lookup
   have in2:=PySem.F.called_set.init.bind (.ref z.heap.objs.size)
   repeat (any_goals (first|assumption|wp_step))
   refine ZcB (codeAny_call_builtin (R:=wants (λ res z2=>res=.none/\∃h2 tk,z2={ z with heap:=h2,toks:=tk }/\Vs pr wd h2 z.heap.objs.size (QJ zs) zs.length/\(∀b o,z.heap.get? b=Za o->h2.get? b=Za o)) E)
    PySem.F.called_set.init.plain PySem.F.entry_set_init (check_set_init_1 tS ?_)) λ res2 z2 hr2=>?_
   ·obtain⟨ol,hol,hcl,nl,hdl⟩:=hl
    obtain⟨ocls,odict,odata,oslots⟩:=ol
    simp only at hcl hdl
    subst hcl;subst hdl
    have gl:(z.heap.push (QT led)).get? l=Za { cls:=.type "list",dict:=odict,data:=.seq us.toArray nl,slots:=oslots }:=Zg _ hol
    have sb1:=PySem.F.sub_list_set
    have sb2:=PySem.F.sub_list_frozenset
    have dne:(Zet "list"==Zet "dict")=Zk:=by decide
    have hl1:(z.heap.push (QT led)).IsList l us.toArray:=⟨_,gl,rfl,nl,rfl⟩
    unfold Ze5.«set.__init__» noKeywords Builtin.Frozenset.updateFrom
    generalize hPI:Zeu=PI
    wp_walk
    subst hPI
    refine ZaN hl1 ?_
    refine Zd (wpAny_runValue ?_)
    have lS:l<z.heap.objs.size:=Z0 hol
    have h3:B.in1.in1.in1.handled=Zc:=by simp[hh]
    have neI:l≠(z.heap.push (QT led)).objs.size:=by rw[Zc7];exact Z8 (Zb8 lS)
    have nC:z.heap.objs.size∉[(z.heap.push (QT led)).objs.size,l]:=by
     rw[Zc7]
     simp only[Z7,ZS,or_false,not_or]
     exact⟨Z8 (Zaz _),ZaQ lS⟩
    refine Jt7 ((ZbT h3 _ l neI us.toArray).toS) z.heap.objs.size nC (QJ zs) vals (by rw[len];exact room) (us.toArray.size-0) 0 _ (by omega) (ZY _) ⟨⟨_,Zz _ rfl,rfl,rfl⟩,(hl1.push _)⟩ ?start ?stop
    case start =>
     have g0:((z.heap.push (QT led)).push { cls:=.type "list_iterator",data:=.fields #[.ref l,.int 0 0] }).get? z.heap.objs.size=Za (QT led):=Zg _ gS
     exact SetOf_congr ((setObjOf_fresh (knd:=ZcQ pr wd) led).setOf g0 (by unfold Zcm;omega)) (λ _=>rfl) rfl
    case stop =>
     intro z5 mv hS5
     obtain⟨h5,g5,d5,tk5,os5⟩:=z5
     have eg:g5=z.gens:=mv.gens
     have ed:d5=z.drawn:=mv.drawn
     have eo:os5=z.os:=mv.os
     subst eg;subst ed;subst eo
     show Zy _ _ _ _ _ _
     refine Zw ?_
     show Zy _ _ (ret Zaa) _ _ _
     rw[len] at hS5
     refine Zw ⟨rfl,h5,tk5,rfl,hS5,λ b o e=>?_⟩
     have lb:=Z0 e
     have b1:b≠z.heap.objs.size:=Z8 lb
     have b2:b≠(z.heap.push (QT led)).objs.size:=by rw[Zc7];exact Z8 (Zb8 lb)
     exact mv.heap b o (by simp only[Z7,ZS,or_false,not_or];exact⟨b1,b2⟩) (Zg _ (Zg _ e))
   ·cases res2 with
    | error e=>exact hr2
    | ok fl2 =>
     cases fl2 with
     | ret rv =>
      obtain⟨rfl,h2,tk,rfl,hS2,keep⟩:=hr2
      repeat (any_goals (first|assumption|wp_step))
      exact fin _ _ hS2 keep
     | _=>exact hr2.elim
  | _=>exact hr.elim
end
section
variable {ce:CeT}{X:Cx}
def Yf (aa:A1):E1:=λ σ h=>(aa σ h).bind λ xs h1=>match xs with
 | [.ref i]=>(match h1[i]? with
  | some (.lst ys)=>(match Qt ys with
   | some zs=>if zs.length+1<Zcm then .ok (.int (cntD (QJ zs) zs.length)) h1 else .stuck
   | none=>.stuck)
  | _=>.stuck)
 | _=>.stuck
theorem Js5 {a:Expr}{aa:A1}{p pos p2 pos2:Pos}(hh:X.A.handled=Zc)(g1:Gl X "len")(m1:X.mg "len"=Zc)(g2:Gl X "set")(m2:X.mg "set"=Zc)(ha:PAi ce X [a] aa)(hs:ZD [a] X.env=[(Zk,ZaY a X.env)]) :
  PEi ce X (.Call (.Name "len" p) [.Call (.Name "set" p2) [a] [] pos2] [] pos) (Yf aa):=λ pj s σ H ι σi h Q E N K=>by
 refine Zaj (Qr N.inv g1 m1 rfl ?_)
 refine ZbJ ?_ rfl rfl
 refine Zds ?_
 refine Zaj (Qr N.inv g2 m2 rfl ?_)
 refine ZaB ?_ hs rfl
 refine(ha pos2).run N K λ xs h1 us s1 H1 ι1 N1 n1 r1 K1=>?_
 obtain⟨vs,rv,qs⟩:=r1
 match xs,K1 with
 | [.ref i],K1 =>
  obtain⟨w,rfl,ad,rfl,hav⟩:=qs.one_of
  obtain⟨u,rfl,ru⟩:=QN rv
  cases ru
  dsimp only at K1
  cases hi:h1[i]? with
  | none=>rw[hi] at K1;exact Zf K1
  | some ob =>
   rw[hi] at K1
   cases ob with
   | lst ys =>
    dsimp only at K1
    cases hb:Qt ys with
    | none=>rw[hb] at K1;exact Zf K1
    | some zs =>
     rw[hb] at K1
     dsimp only at K1
     split at K1
     ·rename_i room
      obtain⟨ws,e1,r3⟩:=N1.at hi hav
      obtain⟨its,rv2,pl,_⟩:=N1.inv.list (SqL.of e1)
      obtain⟨l2,eu,ez⟩:=Jmv hb r3 rv2
      refine Jt5 hh pl.isList eu ez room λ h2 tk hS keep=>Zdt ?_
      obtain⟨o,es,ep,t,ho,hex,hd,hel,hmem,hbb,hf,hn⟩:=hS
      have fit:(es.size:Int)<2^63:=by
       have:=Jl5 (QJ zs) zs.length
       have sb:Zcm<=2^40:=by unfold Zcm;decide
       omega
      refine call_len_set ho hex hd hf fit ?_
      rw[hn]
      exact K1 _ _ _ _ ⟨(N1.inv.kept (t':=_) keep),N1.rel,N1.st⟩ .refl ⟨.int _,⟨_,rfl⟩,rfl⟩
     ·exact Zf K1
   | _=>exact Zf K1
 | [],K1=>exact Zf K1
 | [.non],K1=>exact Zf K1
 | [.bl _],K1=>exact Zf K1
 | [.int _],K1=>exact Zf K1
 | [.str _],K1=>exact Zf K1
 | [.tup _],K1=>exact Zf K1
 | [.rol _],K1=>exact Zf K1
 | x::_::_,K1=>cases x<;>exact Zf K1
end
section
variable {α β:Type}{h h1:IH}{σ:ISt}
theorem Yj (v:IV)(σ:ISt):Ja 0 (Za v::σ) h=.ok v h:=rfl
theorem Jsu (n:Nat)(x:Option IV)(σ:ISt):Ja (n+1) (x::σ) h=Ja n σ h:=rfl
end
def MulS (x:Str)(n:Int):Bool:=decide (x.length<=1000/\ -1000<=n/\n<=1000)
theorem MulS.ok (h:MulS x n=Zh):MulOk x n:=by
 simp only[MulS,decide_eq_true_eq] at h
 obtain⟨h1,h2,h3⟩:=h
 refine⟨?_,λ hn _=>?_,λ hn _=>?_⟩
 ·simp only[ZcS,decide_eq_false_iff_not]
  omega
 ·have e:(1000:Int)<=(2^63-1)/n:=by
   rw[Int.le_ediv_iff_mul_le (by omega)]
   have:(1000:Int)*n<=1000*1000:=ZbQ h3 (by decide)
   omega
  omega
 ·have:x.length*n.toNat<=1000*1000:=Nat.mul_le_mul h1 (by omega)
  have hb:1000000<sizeLine:=by decide
  unfold Builtin.Str.tooLong
  simp only[decide_eq_false_iff_not]
  omega
theorem Jxv:OpR X (ZaU .Mult) (λ x y H Q=>∃i j,x=.str i/\y=.int j/\MulS i j=Zh/\Q (.str (Txt.mul i j)) H):=by
 intro pj s σ H x y v u Q I rx ry h
 obtain⟨i,j,rfl,rfl,hz,q⟩:=h
 obtain⟨t,rfl⟩:=rx
 obtain⟨t',rfl⟩:=ry
 exact SB.mul (MulS.ok hz) λ t' tk=>⟨.str (Txt.mul i j),H,I.tok _,⟨_,rfl⟩,q⟩
def Qs (x y:IV)(h:IH):Res IV:=match x with
 | .str i=>(match y with
  | .int j=>if MulS i j then .ok (.str (Txt.mul i j)) h else .stuck
  | _=>.stuck)
 | x=>X5 x y h
section
variable {ce:CeT}{X:Cx}
theorem J0g:OpI ce X (ZaU .Mult) Qs:=by
 intro pj s σ H ι σi h x y v u Q E N rx ry K
 cases x with
 | str i =>
  obtain⟨xv,rx,qx⟩:=rx
  obtain⟨yv,ry,qy⟩:=ry
  cases y with
  | int j =>
   have e1:xv=.str i:=qx
   have e2:yv=.int j:=qy
   subst e1 e2
   dsimp only[Qs] at K
   split at K
   ·rename_i hz
    exact Qb (Jxv (X:=X.wish E)) N.inv rx ry ⟨i,j,rfl,rfl,hz,fin0 N K rfl⟩
   ·exact Zf K
  | _=>exact Zf K
 | _=>exact J2r pj s σ H ι σi h _ y v u Q E N rx ry K
end
noncomputable def valI (kvs:List (Key×IV))(k:Key):Option IV:=(kvs.find? λ kv=>decide (kv.1=k)).map (·.2)
theorem QM {p:Key×IV}(e:p.1=k):valI (p::r) k=Za p.2:=by simp[valI,ZbX,e]
theorem Q6 {p:Key×IV}(e:¬p.1=k):valI (p::r) k=valI r k:=by simp[valI,ZbX,e]
theorem RPs.get {K:W.Frag}{ι:List Zp}{H:Hp}(k:Key):∀{xs:List (Key×IV)}{vs:List (Key×V)},RPs K ι H xs vs->(valI xs k=Zc/\valV vs k=Zc)∨∃v w,valI xs k=Za v/\valV vs k=Za w/\RV K ι H v w
 | [],_,h=>by
  have e:_=[]:=h
  subst e
  exact .inl ⟨rfl,rfl⟩
 | x::xs,_,h=>by
  obtain⟨v,r,rfl,q,t⟩:=h
  by_cases e:x.1=k
  ·exact .inr ⟨x.2,v,QM e,Jj1 e,q⟩
  ·rw[Q6 e,Jj0 e]
   exact RPs.get k t
theorem RPs.snoc {K:W.Frag}{ι:List Zp}{H:Hp}{k:Key}{v:IV}{w:V}(q:RV K ι H v w):∀{xs:List (Key×IV)}{vs:List (Key×V)},RPs K ι H xs vs->RPs K ι H (xs++[(k,v)]) (vs++[(k,w)])
 | [],_,h=>by
  have e:_=[]:=h
  subst e
  exact⟨w,[],rfl,q,rfl⟩
 | x::xs,_,h=>by
  obtain⟨v',r,rfl,q',t⟩:=h
  exact⟨v',r++[(k,w)],rfl,q',RPs.snoc q t⟩
theorem Jjl {vs:List (Key×V)}{k:Key}{w:V}(e:valV vs k=Zc):putK vs k w=vs++[(k,w)]:=by
 unfold putK
 rw[if_neg]
 rw[Jjz,e]
 exact Zt
section
variable {ce:CeT}{X:Cx}
def Xt:E1:=λ _ h=>.ok (.ref h.length) (h++[.dct []])
theorem Jzj:PEi ce X (.Dict [] [] pos) Xt:=λ pj s σ H ι σi h Q E N K=>by
 have hn:=N.inv.hok.fresh (Zq s.heap.objs.size)
 have I1:=N.inv.laid (a:=s.heap.objs.size) (o:=.dK []) (h':=s.heap.push { cls:=.type "dict",data:=.dict #[] }) (t':=s.toks) (λ _ _ q=>Zg _ q) (Zq _) (Jsr s.heap N.inv.big)
 obtain⟨R1,n1⟩:=N.rel.alloc (o:=.dK []) (io:=.dct []) hn ⟨[],J7,rfl⟩
 have N1:Now ce X pj (ι++[s.heap.objs.size]) σi (h++[.dct []]) σ (upd H s.heap.objs.size (.dK [])) _:=⟨I1,R1,N.st.mono n1⟩
 have h0:(ι++[s.heap.objs.size])[h.length]?=Za s.heap.objs.size:=by rw[<- N.rel.len,ZA (Zq _)];simp
 exact wpAny_Dict_empty (K _ _ _ (ι++[s.heap.objs.size]) N1 n1 ⟨.ref _,rfl,_,rfl,h0⟩)
def VM:IV->List IV->IH->Res IV
 | .ref i,[y,v],h=>match h[i]? with
  | some (.dct kvs)=>(match keyI y with
   | some k=>(match valI kvs k with
    | some w=>.ok w h
    | none=>if kvs.length<sizeLine then .ok v (h.set i (.dct (kvs++[(k,v)]))) else .stuck)
   | none=>.stuck)
  | _=>.stuck
 | _,_,_=>.stuck
theorem Jto:MtI ce X "dict" "dict.setdefault" VM:=by
 intro pj s σ H ι σi h x xs v us Q E N rx rs K
 obtain⟨xv,rx,qx⟩:=rx
 obtain⟨vs,rv,qs⟩:=rs
 cases x with
 | ref i =>
  match xs,K with
  | [y,y2],K =>
   obtain⟨a,rfl,ha⟩:=qx
   obtain⟨w,w2,rfl,qw,qw2⟩:=qs.two_of
   dsimp only[VM] at K
   cases hi:h[i]? with
   | none=>rw[hi] at K;exact Zf K
   | some ob =>
    rw[hi] at K
    cases ob with
    | dct kvs =>
     dsimp only at K
     cases ek:keyI y with
     | none=>rw[ek] at K;exact Zf K
     | some k =>
      rw[ek] at K
      dsimp only at K
      obtain⟨ws,e1,r1⟩:=N.at hi ha
      cases Jga ek qw
      cases rv with
      | @cons _ _ _ _ ru t =>
      cases t with
      | @cons _ u2 _ _ ru2 t =>
      cases t
      cases (show v=.ref a from rx)
      obtain⟨z,hd,ps,rel,dd⟩:=Jss N.inv.hok e1
      have hz:ps.length<=sizeLine:=by rw[<- rel.length];exact z
      refine call_meetsIn ZcY dd.typeIs PySem.F.entry_dict_setdefault (PySem.F.args_dict_setdefault_3 _ _ _) (kt_meets_setdefault (Vi X.prog X.w) a (Jti ru) hd u2) ⟨ps,dd,hz,λ v' hv=>?_,λ hn h' dd' hs=>?_⟩
      ·rcases r1.get k with⟨p,q⟩|⟨v1,w1,p,q,r⟩
       ·have rr:=rel.val k
        rw[q] at rr
        rw[RelO.none_of rr] at hv
        cases hv
       ·rw[p] at K
        have rr:=rel.val k
        rw[q,hv] at rr
        exact fin0 (w:=w1) N K r _ _ (N.inv.tok _) rr
      ·rcases r1.get k with⟨p,q⟩|⟨v1,w1,p,q,r⟩
       ·rw[p] at K
        dsimp only at K
        split at K
        ·rename_i hl
         have he:∃q,h'.get? a=Za q:=let ⟨q,_,_,hq,_⟩:=dd';⟨q,hq⟩
         have hlen:(putK ws k w2).length<=sizeLine:=by rw[Jjl q,Zx,r1.length];exact hl
         have I4:=Jp3 (t':=s.toks+1) N.inv (by rw[e1];exact Zat) hs he (Jvd hlen hd (rel.put k ru2) dd')
         have n:Nxt ι H ι (upd H a (.dK (putK ws k w2))):=⟨⟨[],by simp⟩,Ext.upd_mut e1 (by rw[e1];exact Zat)⟩
         obtain⟨R4,_⟩:=N.rel.write (o:=.dK (putK ws k w2)) (io:=.dct (kvs++[(k,y2)])) ha e1 (by rw[e1];exact Zat) ⟨_,J7,(congrArg (λ P=>RPs X.K ι (upd H a (.dK (putK ws k w2))) (kvs++[(k,y2)]) P) (Jjl q)).mpr (RPs.mono n _ _ (r1.snoc qw2))⟩
         exact K _ _ _ ι ⟨I4,R4,N.st.mono n⟩ n ⟨w2,ru2,RV.mono n _ _ qw2⟩
        ·exact Zf K
       ·have rr:=rel.val k
        rw[q,hn] at rr
        exact Zf rr
    | _=>exact Zf K
  | [],K=>exact Zf K
  | [_],K=>exact Zf K
  | _::_::_::_,K=>exact Zf K
 | _=>cases xs<;>exact Zf K
end
noncomputable def putD (kvs:List (Key×IV))(k:Key)(v:IV):List (Key×IV) :=
 if (kvs.any λ kv=>decide (kv.1=k))=Zh then kvs.map (λ kv=>if kv.1=k then(kv.1,v) else kv) else kvs++[(k,v)]
theorem RPs.any {K:W.Frag}{ι:List Zp}{H:Hp}(k:Key):∀{xs:List (Key×IV)}{vs:List (Key×V)},RPs K ι H xs vs->(xs.any λ kv=>decide (kv.1=k))=vs.any λ kv=>decide (kv.1=k)
 | [],_,h=>by
  have e:_=[]:=h
  subst e
  rfl
 | x::xs,_,h=>by
  obtain⟨v,r,rfl,q,t⟩:=h
  rw[ZbB,ZbB,RPs.any k t]
theorem RPs.upd {K:W.Frag}{ι:List Zp}{H:Hp}{k:Key}{v:IV}{w:V}(q:RV K ι H v w):∀{xs:List (Key×IV)}{vs:List (Key×V)},RPs K ι H xs vs->RPs K ι H (xs.map λ kv=>if kv.1=k then(kv.1,v) else kv) (vs.map λ kv=>if kv.1=k then(kv.1,w) else kv)
 | [],_,h=>by
  have e:_=[]:=h
  subst e
  exact rfl
 | x::xs,_,h=>by
  obtain⟨v',r,rfl,q',t⟩:=h
  rw[Z6,Z6]
  by_cases e:x.1=k
  ·rw[if_pos e,if_pos e]
   exact⟨w,_,rfl,q,RPs.upd q t⟩
  ·rw[if_neg e,if_neg e]
   exact⟨v',_,rfl,q',RPs.upd q t⟩
theorem RPs.putKK {K:W.Frag}{ι:List Zp}{H:Hp}{k:Key}{v:IV}{w:V}{xs:List (Key×IV)}{vs:List (Key×V)}(q:RV K ι H v w)(r:RPs K ι H xs vs):RPs K ι H (putD xs k v) (putK vs k w):=by
 unfold putD putK
 rw[r.any k]
 split
 ·exact r.upd q
 ·exact r.snoc q
section
variable {ce:CeT}{X:Cx}
def QF (x y:IV)(h:IH):Res IV:=match x with
 | .ref i=>(match h[i]? with
  | some (.dct kvs)=>(match keyI y with
   | some k=>(match valI kvs k with
    | some v=>.ok v h
    | none=>.stuck)
   | none=>.stuck)
  | _=>.stuck)
 | _=>.stuck
theorem J3o:IxI ce X QF:=by
 intro value slice pj s σ H ι σi h x y v u Q E N rx ry K hs
 obtain⟨xv,rx,qx⟩:=rx
 obtain⟨yv,ry,qy⟩:=ry
 cases x with
 | ref i =>
  obtain⟨a,e1,ha⟩:=qx
  subst e1
  dsimp only[QF] at K
  cases hi:h[i]? with
  | none=>rw[hi] at K;exact Zf K
  | some ob =>
   rw[hi] at K
   cases ob with
   | dct kvs =>
    dsimp only at K
    cases ek:keyI y with
    | none=>rw[ek] at K;exact Zf K
    | some k =>
     rw[ek] at K
     dsimp only at K
     obtain⟨ws,e1,r1⟩:=N.at hi ha
     cases Jga ek qy
     cases (show v=.ref a from rx)
     obtain⟨z,hd,ps,rel,dd⟩:=Jss N.inv.hok e1
     rcases r1.get k with⟨p,q⟩|⟨v1,w1,p,q,r⟩
     ·rw[p] at K;exact Zf K
     ·rw[p] at K
      have rr:=rel.val k
      rw[q] at rr
      obtain⟨w',hw,rw'⟩:=RelO.some_of rr
      exact ZcA (x:=w') dd.typeIs PySem.F.slot_dict_getitem.lookup (wpAny_getItem_of (Q:=λ r s'=>r=w'/\Q r s') (Jti ry) dd.mapOf hw ⟨rfl,fin0 N K r _ _ (N.inv.tok _) rw'⟩) hs
   | _=>exact Zf K
 | _=>exact Zf K
noncomputable def cInD (x c:IV)(h:IH):Res IV:=match c with
 | .ref i=>(match h[i]? with
  | some (.dct kvs)=>(match keyI x with
   | some k=>.ok (.bl (valI kvs k).isSome) h
   | none=>.stuck)
  | _=>.stuck)
 | _=>.stuck
theorem J2p:OpI ce X (Zav .In) cInD:=by
 intro pj s σ H ι σi h x y v u Q E N rx ry K
 obtain⟨xv,rx,qx⟩:=rx
 obtain⟨yv,ry,qy⟩:=ry
 cases y with
 | ref i =>
  obtain⟨a,e1,ha⟩:=qy
  subst e1
  dsimp only[cInD] at K
  cases hi:h[i]? with
  | none=>rw[hi] at K;exact Zf K
  | some ob =>
   rw[hi] at K
   cases ob with
   | dct kvs =>
    dsimp only at K
    cases ek:keyI x with
    | none=>rw[ek] at K;exact Zf K
    | some k =>
     rw[ek] at K
     dsimp only at K
     obtain⟨ws,e1,r1⟩:=N.at hi ha
     cases Jga ek qx
     cases (show u=.ref a from ry)
     obtain⟨z,hd,ps,rel,dd⟩:=Jss N.inv.hok e1
     refine wpAny_in_of (Jti rx) hd dd.mapOf ?_
     rw[<- (rel.val k).isSome_eq]
     have es:(valV ws k).isSome=(valI kvs k).isSome:=by
      rcases r1.get k with⟨p,q⟩|⟨v1,w1,p,q,r⟩<;>rw[p,q]<;>rfl
     rw[es]
     exact fin0 N K rfl _ _ (N.inv.tok _) rfl
   | _=>exact Zf K
 | _=>exact Zf K
def Yz:IV->IV->IV->ISt->IH->SRes
 | .ref i,iv,v,σ,h=>match h[i]? with
  | some (.dct kvs)=>(match keyI iv with
   | some k=>if kvs.length<sizeLine then .next σ (h.set i (.dct (putD kvs k v))) else .stuck
   | none=>.stuck)
  | _=>.stuck
 | _,_,_,_,_=>.stuck
def gSbD (o i:E1):G1:=λ v σ h=>rS σ (o σ h) λ ov h1=>rS σ (i σ h1) λ iv h2=>Yz ov iv v σ h2
theorem Jzb {oe ie:Expr}{mo mi:E1}{pos:Pos}(ho:PEi ce X oe mo)(hi:PEi ce X ie mi)
  (ha:∀v,ZdN (.Subscript oe ie pos) X.env v=(do
   let ov<-Zb7 [v] (ZaY oe X.env)
   let iv<-Zb7 [v,ov] (ZaY ie X.env)
   Ze3 pos
   Zb7 [v,ov,iv] (setItem ov iv v)
   release [v,ov,iv] [])):PGi ce X (.Subscript oe ie pos) (gSbD mo mi):=by
 intro pj s σ H ι σi h v u Q E N r K
 rw[ha]
 refine Zd (ZU (krun ho N K λ ov h1 ou s1 H1 ι1 N1 n1 r1 K1=>?_))
 refine Zd (ZU (krun hi N1 K1 λ iv h2 iu s2 H2 ι2 N2 n2 r2 K2=>?_))
 have r':RU X.K ι2 H2 v u:=(r.mono n1).mono n2
 obtain⟨ox,ro,qo⟩:=r1.mono n2
 obtain⟨ix,ri,qi⟩:=r2
 obtain⟨vx,rvx,qv⟩:=r'
 refine Zd (Zbo (Zd (ZU ?_)))
 cases ov with
 | ref i =>
  obtain⟨a,rfl,haa⟩:=qo
  dsimp only[Yz] at K2
  cases hh:h2[i]? with
  | none=>rw[hh] at K2;exact Zf K2
  | some ob =>
   rw[hh] at K2
   cases ob with
   | dct kvs =>
    dsimp only at K2
    cases ek:keyI iv with
    | none=>rw[ek] at K2;exact Zf K2
    | some k =>
     rw[ek] at K2
     dsimp only at K2
     split at K2
     ·rename_i hl
      obtain⟨ws,e1,r1'⟩:=N2.at hh haa
      cases Jga ek qi
      cases (show ou=.ref a from ro)
      obtain⟨z,hd,ps,rel,dd⟩:=Jss N2.inv.hok e1
      have hz:ps.length<=sizeLine:=by rw[<- rel.length];exact z
      have hlen:(putK ws k vx).length<=sizeLine:=by
       have h1:=Jmf ws k vx
       have h2:=r1'.length
       omega
      refine wpAny_setItem_pairs (hsz:=hz) (Jti ri) dd λ h' dd' hs=>?_
      have he:∃q,h'.get? a=Za q:=let ⟨q,_,_,hq,_⟩:=dd';⟨q,hq⟩
      have I4:=Jp3 (t':=s2.toks+1) N2.inv (by rw[e1];exact Zat) hs he (Jvd hlen hd (rel.put k rvx) dd')
      have n:Nxt ι2 H2 ι2 (upd H2 a (.dK (putK ws k vx))):=⟨⟨[],by simp⟩,Ext.upd_mut e1 (by rw[e1];exact Zat)⟩
      obtain⟨R3,_⟩:=N2.rel.write (o:=.dK (putK ws k vx)) (io:=.dct (putD kvs k v)) haa e1 (by rw[e1];exact Zat) ⟨_,J7,RPs.putKK (RV.mono n _ _ qv) (RPs.mono n _ _ r1')⟩
      exact wpAny_release (K2 _ σ _ ι2 ⟨I4,R3,N2.st.mono n⟩ n)
     ·exact Zf K2
   | _=>exact Zf K2
 | _=>exact Zf K2
end
def leZ (a b:Int):Bool:=decide (a<=b)
def QW (ns:List Int):List Int:=ns.mergeSort leZ
theorem Jnm (ns:List Int):(QW ns).Pairwise (· <= ·):=by
 have:=List.pairwise_mergeSort (le:=leZ) (λ a b c h1 h2=>by simp only[leZ,decide_eq_true_eq] at *;omega) (λ a b=>by simp only[leZ,Za5,decide_eq_true_eq];omega) ns
 exact this.imp λ h=>by simpa [leZ] using h
theorem Juh {ns ns':List Int}(p:ns'.Perm ns)(s:ns'.Pairwise (· <= ·)):ns'=QW ns :=
 List.Perm.eq_of_pairwise (le:=(· <= ·)) (λ a b _ _ h1 h2=>Int.le_antisymm h1 h2) s (Jnm ns) (p.trans (List.mergeSort_perm ns leZ).symm)
theorem XR:∀{us:List Ze}{ns:List Int},ZbD us ns->Vals (ns.map V.int) us
 | _,_,.nil=>.nil
 | _,_,.cons _ _ r=>.cons ⟨_,rfl⟩ (XR r)
theorem Jjm {K:W.Frag}{ι:List Zp}{H:Hp}:∀ns:List Int,RVs K ι H (ns.map IV.int) (ns.map V.int)
 | []=>rfl
 | _::ns=>⟨_,_,rfl,rfl,Jjm ns⟩
def srtI (xs:List IV):Option (List IV):=match JH xs with
 | some ns=>Za ((QW ns).map .int)
 | none=>Zc
section
variable {ce:CeT}{X:Cx}
def XI:IV->IH->Res IV
 | .ref i,h=>match h[i]? with
  | some (.lst xs)=>if xs.length<64 then(match srtI xs with
   | some ys=>.ok (.ref h.length) (h++[.lst ys])
   | none=>.stuck) else .stuck
  | _=>.stuck
 | _,_=>.stuck
theorem Jsn:Qx ce X (.builtin "sorted") (on1 XI):=VD λ pj s σ H ι σi h x xv u Q E N ru qx K=>by
 cases x with
 | ref i =>
  obtain⟨a,e1,ha⟩:=qx
  subst e1
  cases ru
  dsimp only[XI] at K
  cases hi:h[i]? with
  | none=>rw[hi] at K;exact Zf K
  | some ob =>
   rw[hi] at K
   cases ob with
   | lst xs =>
    dsimp only at K
    split at K
    ·rename_i h64
     obtain⟨vs,e1,r1⟩:=N.at hi ha
     obtain⟨its,rv,pl,hz⟩:=N.inv.list (SqL.of e1)
     have li:its.length=xs.length:=by rw[<- rv.length,r1.length]
     have hb:64<=sizeLine:=by decide
     have fresh:H (s.heap.objs.size+1)=Zc:=N.inv.hok.fresh (ZaL _)
     unfold srtI at K
     cases ei:JH xs with
     | some ns =>
      rw[ei] at K
      have are:=Vy ei r1 rv
      have ln:=Yo are
      refine sorted_ints pl.isList are (by omega) λ out ns' hI hp hs=>?_
      have en:=Juh hp hs
      subst en
      obtain⟨e,he⟩:=sortedAll_at s.heap its out
      have hl:((QW ns).map V.int).length<=sizeLine:=by rw[Zj,hp.length_eq];omega
      have I':=N.inv.laid (a:=s.heap.objs.size+1) (o:=.lst ((QW ns).map V.int)) (h':=sortedAll s.heap its out) (t':=s.toks) (λ _ _=>sortedAll_old) (ZaL _) ⟨hl,out.toList,e,XR hI,he⟩
      exact finA N K (s.heap.objs.size+1) fresh ⟨_,J7,Jjm _⟩ _ _ I' rfl
     | none =>
      rw[ei] at K
      exact Zf K
    ·exact Zf K
   | _=>exact Zf K
 | _=>exact Zf K
end
def JS (f:Nat->Int):Nat->Int
 | 0=>0
 | 1=>f 0
 | j+2=>if f (j+1)<JS f (j+1) then f (j+1) else JS f (j+1)
theorem Jfh (f:Nat->Int)(hj:0<j):JS f (j+1)=if f j<JS f j then f j else JS f j:=by
 cases j with
 | zero=>omega
 | succ j=>rfl
section
variable {pr:ZB}{wd:Zab}{B:ZN}{R:ZdK->Zm->Prop}{it:Zp}{fps wrs:List Zp}{n:Nat}{P:Nat->Ze->Prop}{St:Nat->Zax->Prop}
theorem Jjk:(toString "min"++toString ".loop":String)="min.loop":=by decide
theorem Jxn {kw:List (Str×Ze)}(W:Walks pr wd B.in1 it fps wrs n P St)(f:Nat->Int)(hf:∀i v,P i v->∃t,v=.int (f i) t)(C:Zp)(hC:C∉fps) :
  ∀(r j:Nat)(z:Zm)(v:Ze)(u:Tok)(c:Nat),n-j=r->0<j->j<=n->St j z.heap->v=.int (JS f j) u->z.heap.get? C=Za (Jvr v c) ->
   (∀u h2 tk,(∀a o,a∉wrs->a≠C->z.heap.get? a=Za o->h2.get? a=Za o)->R (.ok (.ret (.int (JS f n) u))) { z with heap:=h2,toks:=tk }) ->
   Zcv (Z9 pr wd) B (.builtin "min.loop" ⟨[.ref it,.none,.ref C],kw⟩) R z:=by
 have hw:C∉wrs:=λ q=>hC (W.sub _ q)
 intro r
 induction r with
 | zero =>
  intro j z v u c hr h0 hj st ev gC fin
  obtain rfl:j=n:=by omega
  subst ev
  refine Zal Zbd ?_
  rw[ZO ZQ _]
  show Zy _ B.in1 (Zb2 (.ref C)>>=_) _ _ z
  refine Zd (ZaG gC rfl ?_)
  show Zy _ B.in1 (tryCatch (ZbG (.ref it)) _>>=_) _ _ z
  refine Zd (ZV (W.done z _ _ st λ h2 tk keep=>?_))
  have gC2:=keep C _ hw gC
  show Zy _ B.in1 (ZcO C (λ _=>#[])>>=_) _ _ _
  refine Zd ?_
  refine Za6 gC2 rfl (Zd (Za8 (Zw ?_)))
  exact fin u _ tk λ a o ha hb e=>(Zs _ _ (ZI hb)).trans (keep a o ha e)
 | succ r ih =>
  intro j z v u c hr h0 hj st ev gC fin
  have lt:j<n:=by omega
  subst ev
  refine Zal Zbd ?_
  rw[ZO ZQ _]
  show Zy _ B.in1 (Zb2 (.ref C)>>=_) _ _ z
  refine Zd (ZaG gC rfl ?_)
  show Zy _ B.in1 (tryCatch (ZbG (.ref it)) _>>=_) _ _ z
  refine Zd (ZV (W.item j z _ _ lt st λ y h2 tk hP st2 keep=>?_))
  obtain⟨t,rfl⟩:=hf j y hP
  have gC2:=keep C _ hw gC
  have cmp:=CmpOf.ints_lt (prog:=pr) (w:=wd) (A:=B.in1) (P:=λ i v=>∃t,v=.int (if i=0 then f j else JS f j) t) (λ i=>if i=0 then f j else JS f j) (λ _ _ q=>q)
  show Zy _ B.in1 (tryCatch (Zb7 [ZbZ (f j) t,ZbZ (f j) t] (Zcg .Lt (.int (f j) t) (.int (JS f j) u)>>=_)) _>>=_) _ _ _
  refine Zd (ZV (ZU (Zd (cmp 0 1 _ _ _ _ _ ⟨t,by simp⟩ ⟨u,by simp⟩ ?_))))
  refine Zd (ZU (ZaK ?_))
  refine Zd (Za8 (Zw ?_))
  have step:=Jfh f h0
  by_cases hb:f j<JS f j
  ·rw[if_pos hb] at step
   simp only[if_true,show ¬(1:Nat)=0 by decide,if_false,decide_eq_true hb]
   refine Zd ?_
   refine Za6 gC2 rfl (Zd (Za8 ?_))
   rw[Jjk]
   refine Zw ⟨Zas ZQ _,ih (j+1) _ (.int (f j) t) t _ (by omega) (by omega) lt (W.frame _ _ _ st2 λ a ha o e=>?_) (by rw[step]) (Za9 _ gC2 rfl) λ u2 h3 tk3 k3=>?_⟩
   ·exact(Zs _ _ (λ q:C=a=>hC (by rw[q];exact ha))).trans e
   ·exact fin u2 h3 tk3 λ a o ha hc e=>k3 a o ha hc ((Zs _ _ (ZI hc)).trans (keep a o ha e))
  ·rw[if_neg hb] at step
   simp only[if_true,show ¬(1:Nat)=0 by decide,if_false,decide_eq_false hb,ZW]
   refine Zd (Za8 ?_)
   rw[Jjk]
   refine Zw ⟨Zas ZQ _,ih (j+1) _ (.int (JS f j) u) u c (by omega) (by omega) lt st2 (by rw[step]) gC2 λ u2 h3 tk3 k3=>?_⟩
   exact fin u2 h3 tk3 λ a o ha hc e=>k3 a o ha hc (keep a o ha e)
end
theorem Jpp (a:Ze):ZdP "min" ⟨[a],[]⟩:=by unfold ZdP;kernel_rfl
section
variable {pr:ZB}{wd:Zab}{B:ZN}{E:QvT}{z:Zm}{l:Zp}{us:List Ze}{ns:List Int}{Q:QvT}
theorem Jxm (hh:B.handled=Zc)(hl:z.heap.IsList l us.toArray)(hi:ZbD us ns)(hne:ns≠[]) 
  (hQ:∀v h2 tk,(∃u,v=.int (JS (λ i=>ns.getD i 0) ns.length) u)->(∀b o,z.heap.get? b=Za o->h2.get? b=Za o)->Q v { z with heap:=h2,toks:=tk }) :
  Zy (Z9 pr wd) B (call (.builtin "min") [.ref l]) Q E z:=by
 obtain⟨ol,hol,_⟩:=id hl
 have lt:l<z.heap.objs.size:=Z0 hol
 have ll:=Yo hi
 refine kmk_tree PySem.F.kind_min PySem.F.plain_min PySem.F.entry_min (Jpp _) ?_
 show Zy _ B.in1 (Zaq "min" ["key","default"] 0 ⟨[],[]⟩>>=_) _ _ z
 refine Zd (Zed (show Zaq "min" ["key","default"] 0 ⟨[],[]⟩=pure [Zc,Zc] from rfl) ?_)
 refine Zd (Zw ?_)
 refine Zd (ZaN hl ?_)
 refine Zd (Zcb ?_ (ZY _))
 rw[Jjk]
 have ne:l≠z.heap.objs.size:=Z8 lt
 have W:=ZbT (prog:=pr) (w:=wd) (A:=B.in1) hh z.heap.objs.size l ne us.toArray
 have sz:us.toArray.size=us.length:=Zu ..
 have hS:(z.heap.push { cls:=.type "list_iterator",data:=.fields #[.ref l,.int 0 0] }).objs.size=z.heap.objs.size+1:=Zdn ..
 have hC:(z.heap.push { cls:=.type "list_iterator",data:=.fields #[.ref l,.int 0 0] }).objs.size∉[z.heap.objs.size,l]:=by
  rw[hS]
  simp only[Z7,ZS,or_false,not_or]
  exact⟨ZaQ (Zaz _),ZaQ (Zb8 lt)⟩
 have hw:(z.heap.push { cls:=.type "list_iterator",data:=.fields #[.ref l,.int 0 0] }).objs.size∉[z.heap.objs.size]:=by
  rw[hS]
  simp only[Z7,ZS,or_false]
  exact ZaQ (Zaz _)
 have old:∀b o,z.heap.get? b=Za o->((z.heap.push { cls:=.type "list_iterator",data:=.fields #[.ref l,.int 0 0] }).push (Zaf "list" #[] 0)).get? b=Za o:=λ b o e=>Zg _ (Zg _ e)
 have gI:((z.heap.push { cls:=.type "list_iterator",data:=.fields #[.ref l,.int 0 0] }).push (Zaf "list" #[] 0)).get? z.heap.objs.size=Za { cls:=.type "list_iterator",data:=.fields #[.ref l,.int 0 0] }:=Zg _ (Zz _ rfl)
 have gC:((z.heap.push { cls:=.type "list_iterator",data:=.fields #[.ref l,.int 0 0] }).push (Zaf "list" #[] 0)).get? (z.heap.push { cls:=.type "list_iterator",data:=.fields #[.ref l,.int 0 0] }).objs.size=Za (Zaf "list" #[] 0):=Zz _ rfl
 have notin:∀b o,z.heap.get? b=Za o->b∉[z.heap.objs.size]:=λ b o e q=>Z8 (Z0 e) (Zv.mp q)
 have notC:∀b o,z.heap.get? b=Za o->b≠(z.heap.push { cls:=.type "list_iterator",data:=.fields #[.ref l,.int 0 0] }).objs.size:=λ b o e=>by rw[hS];exact Z8 (Zb8 (Z0 e))
 refine Zw ⟨Zas ZQ _,Zal Zbd ?_⟩
 rw[ZO ZQ _]
 show Zy _ B.in1 (Zb2 (.ref _)>>=_) _ _ _
 refine Zd (ZaG gC rfl ?_)
 show Zy _ B.in1 (tryCatch (ZbG (.ref z.heap.objs.size)) _>>=_) _ _ _
 have h0:¬us.length=0:=λ q=>hne (ZaM (by omega))
 ·refine Zd (ZV (W.item 0 _ _ _ (by rw[sz];omega) ⟨⟨_,gI,rfl,rfl⟩,(hl.push _).push _⟩ λ y h2 tk hP st2 keep=>?_))
  have gC2:=keep _ _ hw gC
  show Zy _ B.in1 (ZcO (z.heap.push { cls:=.type "list_iterator",data:=.fields #[.ref l,.int 0 0] }).objs.size (λ _=>#[y,y])>>=_) _ _ _
  refine Zd ?_
  refine Za6 gC2 rfl ?_
  rw[Jjk]
  have hf:∀(i:Nat)(v:Ze),us.toArray[i]?=Za v->∃t,v=.int ((λ i=>ns.getD i 0) i) t:=λ i v q=>Zee hi i v (by simpa using q)
  obtain⟨t,rfl⟩:=hf 0 y hP
  refine Zw ⟨Zas ZQ _,Jxn W (λ i=>ns.getD i 0) hf _ hC _ 1 _ _ t _ rfl (by decide) (by rw[sz];omega) (W.frame _ _ _ st2 λ a ha o e=>?_) rfl (Za9 _ gC2 rfl) λ u h3 tk3 k3=>?_⟩
  ·exact(Zs _ _ (λ q=>hC (by rw[q];exact ha))).trans e
  ·rw[sz,ll]
   refine hQ _ h3 tk3 ⟨u,rfl⟩ λ b o e=>k3 b o (notin b o e) (notC b o e) ((Zs _ _ (ZI (notC b o e))).trans (keep b o (notin b o e) (old b o e)))
end
section
variable {ce:CeT}{X:Cx}
def Xa:IV->IH->Res IV
 | .ref i,h=>match h[i]? with
  | some (.lst xs)=>(match JH xs with
   | some ns=>if ns=[] then .stuck else .ok (.int (JS (λ i=>ns.getD i 0) ns.length)) h
   | none=>.stuck)
  | _=>.stuck
 | _,_=>.stuck
theorem Jy2 (hh:X.A.handled=Zc):Qx ce X (.builtin "min") (on1 Xa):=VD λ pj s σ H ι σi h x xv u Q E N ru qx K=>by
 cases x with
 | ref i =>
  obtain⟨a,e1,ha⟩:=qx
  subst e1
  cases ru
  dsimp only[Xa] at K
  cases hi:h[i]? with
  | none=>rw[hi] at K;exact Zf K
  | some ob =>
   rw[hi] at K
   cases ob with
   | lst xs =>
    dsimp only at K
    cases hb:JH xs with
    | none=>rw[hb] at K;exact Zf K
    | some ns =>
     rw[hb] at K
     dsimp only at K
     split at K
     ·exact Zf K
     ·rename_i hne
      obtain⟨vs,e1,r1⟩:=N.at hi ha
      obtain⟨its,rv,pl,hz⟩:=N.inv.list (SqL.of e1)
      refine Jxm hh pl.isList (Vy hb r1 rv) hne λ v h2 tk ⟨t,ev⟩ kk=>?_
      subst ev
      exact fin0 N K rfl _ _ (N.inv.kept (t':=tk) kk) ⟨t,rfl⟩
   | _=>exact Zf K
 | _=>exact Zf K
end
theorem RVs.erase {K:W.Frag}{ι:List Zp}{H:Hp}:∀{xs:List IV}{vs:List V}(k:Nat),RVs K ι H xs vs->RVs K ι H (xs.eraseIdx k) (vs.eraseIdx k)
 | [],vs,k,h=>by
  cases (show vs=[] from h)
  exact rfl
 | _::_,_,0,h=>by
  obtain⟨v,r,rfl,q,t⟩:=h
  exact t
 | _::_,_,k+1,h=>by
  obtain⟨v,r,rfl,q,t⟩:=h
  exact⟨v,r.eraseIdx k,rfl,q,RVs.erase k t⟩
section
variable {ce:CeT}{X:Cx}
def Xw:IV->List IV->IH->Res IV
 | .ref i,[.ref j],h=>match h[i]? with
  | some (.lst xs)=>(match h[j]? with
   | some (.lst ys)=>if xs.length+ys.length<=sizeLine then .ok .non (h.set i (.lst (xs++ys))) else .stuck
   | _=>.stuck)
  | _=>.stuck
 | _,_,_=>.stuck
theorem Jtm:MtI ce X "list" "list.extend" Xw:=by
 intro pj s σ H ι σi h x xs v us Q E N rx rs K
 obtain⟨xv,rx,qx⟩:=rx
 obtain⟨vs,rv,qs⟩:=rs
 cases x with
 | ref i =>
  match xs,K with
  | [y],K =>
   cases y with
   | ref j =>
    obtain⟨a,rfl,ha⟩:=qx
    obtain⟨w,rfl,b,rfl,hb⟩:=qs.one_of
    dsimp only[Xw] at K
    cases hi:h[i]? with
    | none=>rw[hi] at K;exact Zf K
    | some ob =>
     rw[hi] at K
     cases ob with
     | lst zs =>
      dsimp only at K
      cases hj:h[j]? with
      | none=>rw[hj] at K;exact Zf K
      | some oj =>
       rw[hj] at K
       cases oj with
       | lst ys =>
        dsimp only at K
        split at K
        ·rename_i hl
         obtain⟨ws,e1,r1⟩:=N.at hi ha
         obtain⟨ws2,e2,r2⟩:=N.at hj hb
         exact Jr1 (Jq9 (X:=X.wish E)) N.inv rx rv ⟨a,b,ws,ws2,rfl,rfl,e1,e2,by rw[r1.length,r2.length];exact hl,finW (ys:=zs++ys) N K ha e1 (r1.append r2) rfl⟩
        ·exact Zf K
       | _=>exact Zf K
     | _=>exact Zf K
   | _=>exact Zf K
  | [],K=>exact Zf K
  | y::_::_,K=>cases y<;>exact Zf K
 | _=>cases xs with
  | nil=>exact Zf K
  | cons y r=>cases y<;>cases r<;>exact Zf K
def isK (k:Int):Ze->Bool
 | .int a _=>a==k
 | _=>Zk
theorem Jqm:∀(us:List Ze)(ns:List Int),us.length=ns.length->(∀i v,us[i]?=Za v->∃t:Tok,v=ZbZ (ns.getD i 0) t)->ZbD us ns
 | [],[],_,_=>.nil
 | u::us,n::ns,hl,h=>by
  obtain⟨t,e⟩:=h 0 u rfl
  cases (show u=.int n t from e)
  exact .cons n t (Jqm us ns (by simpa using hl) λ i v q=>h (i+1) v q)
 | [],_::_,hl,_=>by cases hl
 | _::_,[],hl,_=>by cases hl
theorem XB (j:Int):rngI 0 j=((ZT j.toNat).map λ k=>((k:Nat):Int)).map IV.int:=by
 simp[rngI]
end
section
variable {prog:ZB}{w:Zab}{A:ZN}{E:QvT}{s:Zm}
end
open AutoSeq1 (wpAny_loadPart') in
section
variable {prog:ZB}{w:Zab}{A:ZN}{E:QvT}{s:Zm}
end
section
variable {ce:CeT}{X:Cx}
end
def QE (a:Zca):Option Str:=match a with
 | { posonlyargs:=[],args:=[p],vararg:=Zc,kwonlyargs:=[],kw_defaults:=[],kwarg:=Zc,defaults:=[] }=>Za p.arg
 | _=>Zc
abbrev lamQ (q:Str):Str:=q++".<locals>."++"<lambda>"
abbrev lamO (q:Str)(params:Zca)(body:Expr)(scope:Zbm)(cl:List (Str×Zp))(pm ctv:Ze)(c:Zp):Obj:=W.kla_obj "<lambda>" (lamQ q) params body scope cl pm c ctv
def Qw (mg:Str->Option Ze)(base:Zax):Prop :=
 ∃bm ob,mg "__builtins__"=Za (.ref bm)/\bm≠Zcz/\bm≠Z2/\base.get? bm=Za ob/\ob.cls=.type "module"/\ob.dict=Za Zcz/\ob.data=.plain
theorem Q8.rec (l:Q8 H q cv)(hok:HOk P w H h):h.CodeRec cv (lamQ q):=by
 obtain⟨c,oc,vs,t,e1,e2,e3,e4⟩:=l
 exact⟨c,oc,vs,t,e1,(hok c _ e2).1,e3,e4⟩
theorem Q8.mono (fz:∀b o u,H b=Za (.frz o u)->H' b=Za (.frz o u))(l:Q8 H q cv):Q8 H' q cv:=by
 obtain⟨c,oc,vs,t,e1,e2,r⟩:=l
 exact⟨c,oc,vs,t,e1,fz _ _ _ e2,r⟩
theorem Jih:∀(l:List Ze),TriplesOk l->Zd6 pos (l++[ZbS a,ZbS b,c])=Za cv->Zd6 pos l=Za cv∨cv=c
 | [],_,e=>by
  simp only[Zaw,ZbS,Zd6] at e
  split at e
  ·cases e;exact .inr rfl
  ·cases e
 | .int x t::.int y u::z::rest,h,e=>by
  simp only[Zan,Zd6] at e ⊢
  split at e
  ·rename_i hh
   rw[if_pos hh]
   exact .inl e
  ·rename_i hh
   rw[if_neg hh]
   exact Jih rest h e
 | [.int _ _],h,_=>(show False from h).elim
 | [.int _ _,.int _ _],h,_=>(show False from h).elim
section
variable {ce:CeT}{X:Cx}
theorem Now.pinO {pj:PnT}{ι:List Zp}{σi:ISt}{h:IH}{σ:L2.St}{H:Hp}{s:Zm}{f:Zp}{fo:Obj}(N:Now ce X pj ι σi h σ H s)(e:s.heap.get? f=Za fo)(F:FpOk X pj H f)(d:∀v,fo.data≠.cell v):Now ce X (pj++[(f,fo)]) ι σi h σ H s:=by
 have I:=N.inv.pinned (fp:=[f]) (λ b hb=>by rw[Zv.mp hb];exact F) (λ b hb=>by rw[Zv.mp hb];exact⟨fo,e,d⟩)
 have ep:QG [f] s.heap=[(f,fo)]:=by simp[QG,e]
 rw[ep] at I
 exact⟨I,N.rel,N.st⟩
theorem Jji {q:Str}{j:Nat}{params:Zca}{body:Expr}{scope:Zbm}{pos:Pos}{cl:List (Str×Zp)}{pj:PnT}{s:Zm}{σ:L2.St}{H:Hp}{ι:List Zp}{σi:ISt}{h:IH}{Q:QvT}{E:QvT}
  (N:Now ce X pj ι σi h σ H s)(hj:h[j]?=Za (.tab q))(hcd:W.codeIn X.K X.env.code q=Zh)(hq:X.env.qual=q++".<locals>.")(hdef:defaultsOf params X.env=([],[]))(hcl:ZcN scope X.env=pure cl)(B:Qw X.mg X.base)
  (K:∀f c pm ctv s' H',Now ce X (pj++[(f,lamO q params body scope cl pm ctv c)]) ι σi h σ H' s'->Nxt ι H ι H'->Q8 H' q (.ref c)->Q (.ref f) s') :
  Zy (Z9 X.prog X.w) X.A (ZaY (.Lambda params body scope pos) X.env) Q E s:=by
 obtain⟨a,ha,hc,ps,hP,ht,hcodes⟩:=N.rel.at_ j _ hj
 obtain⟨c,ec,hhd⟩:=hc _ hcd
 have I:=N.inv
 have C:=W.codeHd_of_K I.kIn hhd
 have gP:s.heap.get? a=Za (W.tabObj ps):=I.hok a _ hP
 have hg:s.heap.Ns Z2 X.mg:=I.ok.mod.glob.keeps I.bk
 obtain⟨bm,ob,b1,b2,b3,b4,b5,b6,b7⟩:=B
 have gb:=I.bs bm ob b4
 have nba:bm≠a:=λ z=>by rw[z,hP] at gb;cases gb.2
 have hb:s.heap.BuiltinsAt X.mg a:=⟨bm,ob,b1,b2,b3,nba,gb.1,b5,b6,b7⟩
 have nga:Z2≠a:=λ z=>by
  obtain⟨o,es,ep,e,d,_⟩:=hg
  rw[z,gP] at e
  cases e
  cases d
 refine W.kla_eval hdef ?_
 rw[hq]
 cases ea:Zd6 pos ps.toList with
 | some cv =>
  have LC:=hcodes pos cv ea
  obtain⟨c',oc,vs,t,ecv,_⟩:=id LC
  subst ecv
  refine W.kla_makeFunctionHit hcl I.ok.glob hg ec C gP ht ea hb λ ctv h' tk hk hsz=>?_
  have I1:=I.kept (h':=h'.push (lamO q params body scope cl ((X.mg "__name__").getD .none) ctv c')) (t':=tk) λ b o e=>Zg _ (hk b o e)
  have N1:Now ce X pj ι σi h σ H _:=⟨I1,N.rel,N.st⟩
  exact K h'.objs.size c' _ ctv _ H (N1.pinO (Zz _ rfl) (I.fpOk hsz (I.hok.fresh hsz)) λ v z=>by
   have z':Data.func _=Ze7 v:=z
   cases z') .refl LC
 | none =>
  refine W.kla_makeFunction hcl I.ok.glob hg ec C gP ht ea nga hb λ c' ctv h' tk hx hge hlt hrec htb=>?_
  obtain⟨c2,oc,vs,t,e2,hoc,hd,hv⟩:=hrec
  cases e2
  generalize hps:ps++#[ZbS pos.line,ZbS pos.col,.ref c']=ps' at htb
  generalize hob:lamO q params body scope cl ((X.mg "__name__").getD .none) ctv c'=fo
  have fc:H c'=Zc:=I.hok.fresh hge
  have nca:c'≠a:=λ z=>by rw[z,hP] at fc;cases fc
  have lts:s.heap.objs.size<=h'.objs.size:=ZZ hge (Zcl hlt)
  obtain⟨H',hH⟩:∃H',H'=upd (upd H a (.tbl ps')) c' (.frz oc (.own 0)):=⟨_,rfl⟩
  have Ha:H' a=Za (.tbl ps'):=by rw[hH,Jq (ZI nca),J7]
  have Hc:H' c'=Za (.frz oc (.own 0)):=by rw[hH,J7]
  have Ho:∀b,b≠a->b≠c'->H' b=H b:=λ b h1 h2=>by rw[hH,Jq h2,Jq h1]
  have kp:∀b o,b≠a->s.heap.get? b=Za o->(h'.push fo).get? b=Za o:=λ b o hb e=>Zg _ (hx b o hb e)
  have ga:(h'.push fo).get? a=Za (W.tabObj ps'):=Zg _ htb
  have frz:∀b o u,H b=Za (.frz o u)->H' b=Za (.frz o u):=λ b o u e=>by rw[Ho b (λ z=>by rw[z,hP] at e;cases e) (λ z=>by rw[z,fc] at e;cases e)];exact e
  have tup:∀b xs,H b=Za (.tup xs)->H' b=Za (.tup xs):=λ b xs e=>by rw[Ho b (λ z=>by rw[z,hP] at e;cases e) (λ z=>by rw[z,fc] at e;cases e)];exact e
  have own:∀b x,H b=Za (.own x)->H' b=Za (.own x):=λ b x e=>by rw[Ho b (λ z=>by rw[z,hP] at e;cases e) (λ z=>by rw[z,fc] at e;cases e)];exact e
  have I1:Inv X pj σ H' { s with heap:=h'.push fo,toks:=tk }:=by
   refine I.step (g':=s.gens) (d':=s.drawn) (ch:=[]) (λ b hb=>absurd hb (by simp)) (λ b o _ _ _ e n=>kp b o (λ z=>by rw[z,hP] at n;cases n) e) (λ b o _ _ _ e n=>⟨o.slots,kp b o (λ z=>by rw[z,hP] at n;cases n) e⟩) (λ b o _ e n=>?_) (λ b o _ e=>?_) tup frz (λ b qs e=>?_) (λ m hm=>?_) (λ b u e=>?_) I.bare
   ·rw[Ho b (λ z=>by rw[z,hP] at n;cases n) (Z8 (ZJ (Z0 e) hge))];exact n
   ·by_cases hb:b=a
    ·subst hb;exact⟨_,ga⟩
    ·exact⟨o,kp b o hb e⟩
   ·by_cases hb:b=a
    ·subst hb
     rw[hP] at e
     cases e
     exact⟨_,by rw[Ha,<-hps]⟩
    ·exact⟨#[],by rw[Ho b hb (λ z=>by rw[z,fc] at e;cases e),e];simp⟩
   ·obtain⟨o,es,ep,ho,r⟩:=hm
    exact⟨o,es,ep,kp _ o (λ z=>by have:=I.free;rw[z,hP] at this;cases this) ho,r⟩
   ·by_cases hb:b=a
    ·subst hb
     rw[Ha] at e
     cases e
     exact ga
    ·by_cases hb2:b=c'
     ·subst hb2
      rw[Hc] at e
      cases e
      exact⟨Zg _ hoc,_,Zg _ hoc⟩
     ·rw[Ho b hb hb2] at e
      refine(I.hok b u e).stay (λ d v hd r=>kp d v (λ z=>?_) r) (λ d z=>own d _ z) tup
      subst z
      rcases hd with z|z
      ·exact hb z.symm
      ·rw[hP] at z;cases z
  have n:Nxt ι H ι H':=⟨⟨[],by simp⟩,⟨tup,frz⟩⟩
  have LC:Q8 H' q (.ref c'):=⟨c',oc,vs,t,rfl,Hc,hd,hv⟩
  have R:Rel ce X.K ι h H':=by
   refine⟨N.rel.len,N.rel.nd,λ i o e=>?_⟩
   obtain⟨b,eb,ro⟩:=N.rel.at_ i o e
   refine⟨b,eb,?_⟩
   by_cases hb:b=a
   ·subst hb
    have hij:i=j:=N.rel.inj eb ha
    subst hij
    rw[hj] at e
    cases e
    refine⟨hc,ps',Ha,?_,λ pos' cv ea'=>?_⟩
    ·rw[<- hps,Array.toList_append]
     exact TriplesOk_snoc _ _ _ _ ht
    ·rw[<- hps,Array.toList_append] at ea'
     rcases Jih ps.toList ht ea' with z|z
     ·exact(hcodes pos' cv z).mono frz
     ·rw[z];exact LC
   ·refine ro.mono n λ u hu=>?_
    rw[Ho b hb (λ z=>by rw[z,fc] at hu;cases hu)]
    exact hu
  have N1:Now ce X pj ι σi h σ H' _:=⟨I1,R,N.st.mono n⟩
  subst hob
  exact K h'.objs.size c' _ ctv _ H' (N1.pinO (Zz _ rfl) (I.fpOk lts (by rw[Ho _ (ZaQ (ZJ (Z0 gP) lts)) (ZaQ hlt)];exact I.hok.fresh lts)) λ v z=>by
   have z':Data.func _=Ze7 v:=z
   cases z') n LC
end
abbrev envL (q:Str)(scope:Zbm)(L f:Zp)(cd:Ze)(cl:List (Str×Zp)):Env:=newEnv scope L Z2 cl (lamQ q++".<locals>.") (Za f) cd Zc Zcz
def cxL (X:Cx)(A:ZN)(N':List Str)(q:Str)(scope:Zbm)(f:Zp)(cd:Ze)(s:Zm)(H:Hp):Cx :=
 { X with A:=A.deeper (envL q scope s.heap.objs.size f cd (clOf X.env.cells scope.names [])),N:=N',s₀:=s,H₀:=H,env:=envL q scope s.heap.objs.size f cd (clOf X.env.cells scope.names []),outer:=X.stack,stack:=envL q scope s.heap.objs.size f cd (clOf X.env.cells scope.names [])::X.stack,ex:=[],calm:=Zh,fn:=λ _=>Zk,pn:=[],xe:=λ _ _=>False }
structure LamSc (N0:List Str)(sc₀:List (Str×Zbj))(x:Str)(caps:List Str)(js:List Nat)(scope:Zbm):Prop where
 kind:scope.kind=.function
 co:scope.isCoroutine=Zk
 gen:scope.isGenerator=Zk
 nocell:∀y∈scope.names,y.2≠.cell
 par:scope.names.lookup x=Za .local
 free:∀y∈scope.names,y.2=.free->sc₀.lookup y.1=Za .cell
 fr:∀y,scope.names.lookup y=Za .free->(y,.free)∈scope.names
 cap:∀(k j:Nat)(y:Str),js[k]?=Za j->caps[k]?=Za y->N0[j]?=Za y/\scope.names.lookup y=Za .free
 len:js.length=caps.length
 nd:(x::caps).Nodup
theorem Jsm:ZdZ (W.kla_fn nm qu { posonlyargs:=[],args:=[p],vararg:=Zc,kwonlyargs:=[],kw_defaults:=[],kwarg:=Zc,defaults:=[] } body scope cl pm cd ctv) ⟨[u],[]⟩=pure [(p.arg,u)]:=by
 have e:(Zb4 p.arg [(p.arg,u)]).isNone=Zk:=by simp
 unfold ZdZ
 simp[Zb2,e]
 rfl
section
variable {ce:CeT}{X:Cx}
theorem Jme {k:Nat}{A:ZN}{q x:Str}{caps:List Str}{js:List Nat}{params:Zca}{body:Expr}{scope:Zbm}{pm ctv:Ze}{c f:Zp}{m:E1}{v:IV}{u:Ze}{pj:PnT}{s:Zm}{σ:L2.St}{H:Hp}{ι:List Zp}{σi:ISt}{h:IH}{Q:QvT}{E:QvT} 
  (hA:A.frames=Za X.stack)(hr:Room (k+1) A)(N:Now ce X pj ι σi h σ H s)(hf:s.heap.get? f=Za (lamO q params body scope (clOf X.env.cells scope.names []) pm ctv c))(LC:Q8 H q (.ref c))(hx:QE params=Za x)(S:LamSc X.N X.env.scope.names x caps js scope)
  (hb:∀s' H',PEi ce (cxL X A (x::caps) q scope f (.ref c) s' H') body m)(ru:RU X.K ι H v u)(K:Kont ce X RU pj ι σi σ H ((m (Za v::js.map λ j=>(σi[j]?).join) h).nx) Q E) :
  Zy (Z9 X.prog X.w) A (call (.ref f) [u]) Q E s:=by
 have I:=N.inv
 have e0:=I.env0
 have lim:s.heap.NoLimit:=e0.mod.nolimit.keeps λ b o e=>(e0.bs b o e).1
 refine Zew (W.kla_callFunE hr.depth hf rfl S.co S.gen rfl (LC.rec I.hok) ?_)
 have hbind:ZdZ (W.kla_fn "<lambda>" (lamQ q) params body scope (clOf X.env.cells scope.names []) pm (.ref c) ctv) ⟨[u],[]⟩=pure [(x,u)]:=by
  unfold QE at hx
  split at hx
  ·cases hx
   exact Jsm
  ·cases hx
 rw[hbind]
 refine Zw (wpAny_newFunctionEnv S.nocell (λ y hy=>by rw[Zv.mp hy];exact S.par) (λ h3 hns hsb=>⟨lim.fresh _ hsb,?_⟩) S.kind)
 obtain⟨w,rw',qw⟩:=ru
 have keep:∀b o,s.heap.get? b=Za o->h3.get? b=Za o:=λ b o z=>(hsb.2 b (Z8 (Z0 z))).trans (Zg _ z)
 have cells':∀y d,(clOf X.env.cells scope.names []).lookup y=Za d->X.env.cells.lookup y=Za d:=Ji2 _ _ (λ y d z=>by simp at z)
 have okX:(cxL X A (x::caps) q scope f (.ref c) s H).Ok:=by
  have noA:∀b:Zp,b∉(cxL X A (x::caps) q scope f (.ref c) s H).ex:=λ b z=>absurd (show b∈([]:List Zp) from z) (by simp)
  refine⟨I.ok.mod,S.kind,rfl,rfl,Zq _,λ y y' d a b=>I.ok.inj y y' d (cells' y d a) (cells' y' d b),λ y hy=>?_,λ y d z=>absurd (show Zk=Zh from z) Zt,λ _=>hr.hd,Around.frames_deeper hA,.inr ⟨rfl,rfl⟩,λ b z=>absurd z (noA b),e0.bs,e0.bsz,λ b _ _=>noA b,λ b z=>absurd z (noA b),e0.funs,e0.frf⟩
  have hy':scope.names.lookup y=Za .cell∨scope.names.lookup y=Za .free:=hy
  rcases hy' with z|z
  ·exact absurd rfl (S.nocell _ (Zak z))
  ·have hm:=Zak z
   obtain⟨d,hd⟩:=I.ok.has y (.inl (S.free (y,.free) hm rfl))
   exact Zbn.mp (Yd _ _ y d hm hd)
 have I3:Inv (cxL X A (x::caps) q scope f (.ref c) s H) [] (Za w::js.map λ j=>(σ[j]?).join) H { s with heap:=h3,toks:=s.toks+[(x,u)].length }:=by
  refine⟨okX,rfl,I.bare,Un.kept keep,⟨_,hns,λ i y z a b cc=>?_⟩,λ y d z=>?_,I.hok.fresh (Zq _),λ y d z=>I.freeC y d (cells' y d z),λ p hp=>absurd (show p∈([]:PnT) from hp) (by simp),I.hok.kept keep,by show _=(x::caps).length;simp[S.len]⟩
  ·cases i with
   | zero =>
    have a':Za x=Za y:=a
    cases a'
    have b':Za (Za w)=Za (Za z):=b
    cases b'
    exact⟨u,rw',.inl ⟨S.par,by simp⟩⟩
   | succ i =>
    have a':caps[i]?=Za y:=a
    have b':(js.map λ j=>(σ[j]?).join)[i]?=Za (Za z):=b
    rw[Z1] at b'
    cases ej:js[i]? with
    | none=>rw[ej] at b';cases b'
    | some j =>
     rw[ej] at b'
     have b2:(σ[j]?).join=Za z:=Zao b'
     have hσ:σ[j]?=Za (Za z):=by
      cases es:σ[j]? with
      | none=>rw[es] at b2;cases b2
      | some o=>rw[es] at b2;rw[show o=Za z from b2]
     obtain⟨hx1,hx2⟩:=S.cap i j y ej a'
     have hm:=Zak hx2
     have hk:=S.free (y,.free) hm rfl
     obtain⟨m0,hn,hl⟩:=I.loc
     obtain⟨u',ru',lk⟩:=hl j y z hx1 hσ (.inr (.inl hk))
     rcases lk with⟨e,_⟩|⟨e,d,hd,hcell⟩
     ·have hk':X.env.scope.names.lookup y=Za .cell:=hk
      have e':X.env.scope.names.lookup y=Za .local:=e
      rw[hk'] at e'
      cases e'
     ·obtain⟨d',hd2⟩:=Zbn.mp (Yd (cells:=X.env.cells) scope.names [] y d hm hd)
      have:=cells' y d' hd2
      rw[hd] at this
      cases this
      obtain⟨oc,hoc,hdd⟩:=hcell
      exact⟨u',ru',.inr ⟨.inr hx2,d,hd2,oc,keep _ _ hoc,hdd⟩⟩
  ·obtain⟨z',o,ho,hd⟩:=I.cell y d (cells' y d z)
   exact⟨z',o,keep _ _ ho,hd⟩
 have N3:Now ce (cxL X A (x::caps) q scope f (.ref c) s H) [] ι (Za v::js.map λ j=>(σi[j]?).join) h (Za w::js.map λ j=>(σ[j]?).join) H { s with heap:=h3,toks:=s.toks+[(x,u)].length }:=by
  refine⟨I3,N.rel,by simp,λ i z a=>?_⟩
  cases i with
  | zero =>
   have a':Za (Za v)=Za (Za z):=a
   cases a'
   exact⟨w,rfl,qw⟩
  | succ i =>
   have a':(js.map λ j=>(σi[j]?).join)[i]?=Za (Za z):=a
   rw[Z1] at a'
   cases ej:js[i]? with
   | none=>rw[ej] at a';cases a'
   | some j =>
    rw[ej] at a'
    have a2:(σi[j]?).join=Za z:=Zao a'
    have hσ:σi[j]?=Za (Za z):=by
     cases es:σi[j]? with
     | none=>rw[es] at a2;cases a2
     | some o=>rw[es] at a2;rw[show o=Za z from a2]
    obtain⟨z',ez,qz⟩:=N.st.2 j z hσ
    refine⟨z',?_,qz⟩
    show(js.map λ j=>(σ[j]?).join)[i]?=Za (Za z')
    rw[Z1,ej]
    show Za ((σ[j]?).join)=_
    rw[ez]
    rfl
 refine W.kla_codeExpr (Zap (hb s H [] _ _ H ι _ h (λ u' s'=>Q u' s') (λ _ _=>False) N3 ?_) (λ _ _ z=>z) λ _ _ z=>z.elim)
 cases er:m (Za v::js.map λ j=>(σi[j]?).join) h with
 | ok v' h' =>
  rw[er] at K
  intro u' s' H' ι' N' n' ⟨z,rz,qz⟩
  have J:=N'.inv
  obtain⟨_,_,I',rz',e1,e2⟩:=I.after (Q:=λ z2 H2=>z2=z/\H2=H') ⟨z,H',J.os,J.bare,J.base,J.hok,rz,rfl,rfl⟩
  subst e1
  subst e2
  exact K u' s' _ ι' ⟨I',N'.rel,N.st.mono n'⟩ n' ⟨_,rz',qz⟩
 | exc n h'=>rw[er] at K;exact Zf K
 | stuck=>rw[er] at K;exact Zf K
end
def gtZ:IV->IV->Option Bool
 | .int a,.int b=>Za (decide (a>b))
 | _,_=>Zc
def Qa (gt:IV->IV->Option Bool)(mk:IV->IH->Res IV)(i n:Nat):Nat->IV->IV->IH->Res IV
 | 0,b,_,h=>(match h[i]? with
  | some (.lst ys)=>if ys.length=n then .ok b h else .stuck
  | _=>.stuck)
 | r+1,b,kb,h=>(match h[i]? with
  | some (.lst ys)=>if ys.length=n then(match ys[n-(r+1)]? with
    | some y=>(mk y h).nx.bind λ k h'=>(match gt k kb with
     | some Zh=>Qa gt mk i n r y k h'
     | some Zk=>Qa gt mk i n r b kb h'
     | none=>.stuck)
    | none=>.stuck) else .stuck
  | _=>.stuck)
def X1 (gt:IV->IV->Option Bool)(mk:IV->IH->Res IV)(i:Nat)(d:IV)(h:IH):Res IV:=match h[i]? with
 | some (.lst ys)=>(match ys[0]? with
  | some y=>(mk y h).nx.bind λ k h'=>Qa gt mk i ys.length (ys.length-1) y k h'
  | none=>.ok d h)
 | _=>.stuck
theorem FpOk.more {X:Cx}{pj:PnT}{H:Hp}{b:Zp}{p:Zp×Obj}(F:FpOk X pj H b)(ne:p.1≠b):FpOk X (pj++[p]) H b:=by
 refine⟨F.1,F.2.1,F.2.2.1,F.2.2.2.1,F.2.2.2.2.1,λ q hq=>?_⟩
 rcases ZL.mp hq with z|z
 ·exact F.2.2.2.2.2 q (Zah _ z)
 ·rcases ZL.mp z with z|z
  ·exact F.2.2.2.2.2 q (Zi _ z)
  ·rw[Zv.mp z]
   exact ne
theorem FpOk.at {X:Cx}{pj:PnT}{H H':Hp}{b:Zp}(F:FpOk X pj H b)(n:H' b=Zc):FpOk X pj H' b:=⟨n,F.2⟩
theorem Y9 {xs:List V}{us:List Ze}{i:Nat}{u:Ze}(r:Vals xs us)(e:us[i]?=Za u):∃x,xs[i]?=Za x/\RelV x u:=by
 have hi:=(Zo.mp e).1
 have hl:=r.length
 have hi2:i<xs.length:=by omega
 have hx:xs[i]?=Za xs[i]:=Zb hi2
 obtain⟨u',e',q⟩:=r.get hx
 rw[e] at e'
 cases e'
 exact⟨_,hx,q⟩
section
variable {ce:CeT}{X:Cx}
theorem Now.turned {pj:PnT}{ι:List Zp}{σi:ISt}{h:IH}{σ:L2.St}{H:Hp}{s:Zm}{it:Zp}{h':Zax}{t':Nat}(N:Now ce X pj ι σi h σ H s)(F:FpOk X pj H it)(k:∀b o,b≠it->s.heap.get? b=Za o->h'.get? b=Za o) :
  Now ce X pj ι σi h σ H { s with heap:=h',toks:=t' }:=⟨N.inv.turned k F.1 F.2.1 F.2.2.2.1 F.2.2.2.2.1 F.2.2.2.2.2,N.rel,N.st⟩
theorem Now.keptH {pj:PnT}{ι:List Zp}{σi:ISt}{h:IH}{σ:L2.St}{H:Hp}{s:Zm}{h':Zax}{t':Nat}(N:Now ce X pj ι σi h σ H s)(k:∀b o,s.heap.get? b=Za o->h'.get? b=Za o) :
  Now ce X pj ι σi h σ H { s with heap:=h',toks:=t' }:=⟨N.inv.kept k,N.rel,N.st⟩
def CmpK (ce:CeT)(X:Cx)(A:ZN)(op:CmpOp)(gt:IV->IV->Option Bool):Prop :=
 ∀(pj:PnT)(ι:List Zp)(σi:ISt)(h:IH)(σ:L2.St)(H:Hp)(s:Zm)(k kb:IV)(u ub:Ze)(b:Bool)(Q:QvT)(E:QvT),Now ce X pj ι σi h σ H s->RU X.K ι H k u->RU X.K ι H kb ub->gt k kb=Za b ->
  (∀h' t',(∀a o,s.heap.get? a=Za o->h'.get? a=Za o)->Q (.bool b) { s with heap:=h',toks:=t' })->Zy (Z9 X.prog X.w) A (Zcg op u ub) Q E s
theorem Jy4 {A:ZN}:CmpK ce X A .Gt gtZ:=λ pj ι σi h σ H s k kb u ub b Q E N r rb e q=>by
 cases k with
 | int a =>
  cases kb with
  | int c =>
   obtain⟨x,rx,ex⟩:=r
   obtain⟨y,ry,ey⟩:=rb
   have ex':x=.int a:=ex
   have ey':y=.int c:=ey
   subst ex'
   subst ey'
   obtain⟨t,rfl⟩:=rx
   obtain⟨t',rfl⟩:=ry
   have e':Za (decide (a>c))=Za b:=e
   cases e'
   have cmp:=CmpOf.ints_gt (prog:=X.prog) (w:=X.w) (A:=A) (P:=λ i v=>∃t,v=.int (if i=0 then a else c) t) (λ i=>if i=0 then a else c) (λ _ _ q=>q)
   have:=cmp 0 1 (.int a t) (.int c t') s Q E ⟨t,by simp⟩ ⟨t',by simp⟩
   simp only[if_true,show ¬(1:Nat)=0 by decide,if_false] at this
   exact this (q s.heap s.toks λ _ _ e=>e)
  | _=>cases e
 | _=>cases e
def Xo (ce:CeT)(X:Cx)(A:ZN)(σi:ISt)(σ:L2.St)(pj:PnT)(G:Hp->Prop)(fv:Ze)(mk:IV->IH->Res IV):Prop :=
 ∀(pl:PnT)(s:Zm)(H:Hp)(ι:List Zp)(h:IH)(v:IV)(u:Ze)(Q:QvT),Now ce X (pj++pl) ι σi h σ H s->G H->RU X.K ι H v u->Kont ce X RU (pj++pl) ι σi σ H (mk v h).nx Q (λ _ _=>False) ->
  Zy (Z9 X.prog X.w) A (call fv [u]) Q (λ _ _=>False) s
theorem Yu {α γ:Type}{pj:PnT}{ι:List Zp}{σi:ISt}{σ:L2.St}{H:Hp}{R:REL α Ze}{R':REL γ Ze}{r:Res α}{g:α->IH->Res γ}{Q:QvT}{E:QvT}{pl:PnT}{Q1:QvT}
  (K:Kont ce X R' pj ι σi σ H (r.nx.bind g) Q E)
  (step:∀x h1 u s1 H1 ι1,Now ce X (pj++pl) ι1 σi h1 σ H1 s1->Nxt ι H ι1 H1->R X.K ι1 H1 x u->Kont ce X R' pj ι1 σi σ H1 (g x h1) Q E->Q1 u s1):Kont ce X R (pj++pl) ι σi σ H r.nx Q1 (λ _ _=>False):=by
 cases r with
 | ok v h'=>exact λ u s' H' ι' N' n' q=>step v h' u s' H' ι' N' n' q (Kont.mono (r:=g v h') K n')
 | exc n h'=>exact Zf K
 | stuck=>exact Zf K
section
variable {A:ZN}{R:ZdK->Zm->Prop}{Q:QvT}{E:QvT}{pj:PnT}{σi:ISt}{σ:L2.St}{G:Hp->Prop}{fq:Zp}{mk:IV->IH->Res IV}{gt:IV->IV->Option Bool}{i n:Nat}{l I C:Zp}{kw:List (Str×Ze)}
theorem Jtu (hh:A.handled=Zc)(cm:CmpK ce X A.in1 .Gt gt)(ko:Xo ce X A.in1 σi σ pj G (.ref fq) mk)(hG:∀H H',Ext H H'->G H->G H')(hR:∀v s',Q v s'->R (.ok (.ret v)) s')(hIC:I≠C) :
  ∀(r j:Nat)(z:Zm)(H:Hp)(ι:List Zp)(h:IH)(b kb:IV)(vb uk:Ze)(c:Nat),n-j=r->0<j->j<=n->Now ce X pj ι σi h σ H z->G H->ι[i]?=Za l->FpOk X pj H I->FpOk X pj H C->z.heap.IsListIter I l j ->
   z.heap.get? C=Za (Zaf "list" #[vb,uk] c)->RU X.K ι H b vb->RU X.K ι H kb uk->Kont ce X RU pj ι σi σ H (Qa gt mk i n r b kb h) Q E ->
   Zcv (Z9 X.prog X.w) A (.builtin "max.loop" ⟨[.ref I,.ref fq,.ref C],kw⟩) R z:=by
 intro r
 induction r with
 | zero =>
  intro j z H ι h b kb vb uk c hr h0 hj N g hi fI fC st gC rb rk K
  obtain rfl:j=n:=by omega
  unfold Qa at K
  cases eh:h[i]? with
  | none=>rw[eh] at K;exact Zf K
  | some ob =>
   rw[eh] at K
   cases ob with
   | lst ys =>
    dsimp only at K
    split at K
    ·rename_i hlen
     obtain⟨ws,e1,r3⟩:=N.at eh hi
     obtain⟨its,rv2,pl,_⟩:=N.inv.list (SqL.of e1)
     have ne:l≠I:=λ q=>by have:=fI.1;rw[<- q,e1] at this;cases this
     have sz:its.toArray.size=j:=by
      rw[Zu,<-rv2.length,r3.length,hlen]
     have W:=ZbT (prog:=X.prog) (w:=X.w) (A:=A.in1) hh I l ne its.toArray
     refine Zal Zbc ?_
     rw[ZO ZP _]
     show Zy _ A.in1 (Zb2 (.ref C)>>=_) _ _ z
     refine Zd (ZaG gC rfl ?_)
     show Zy _ A.in1 (tryCatch (ZbG (.ref I)) _>>=_) _ _ z
     refine Zd (ZV (W.done z _ _ ⟨by rw[sz];exact st,pl.isList⟩ λ h2 tk keep=>?_))
     have gC2:=keep C _ (λ q=>hIC (Zv.mp q).symm) gC
     have N1:=N.turned (h':=h2) (t':=tk) fI λ b o hb e=>keep b o (λ q=>hb (Zv.mp q)) e
     show Zy _ A.in1 (ZcO C (λ _=>#[])>>=_) _ _ _
     refine Zd ?_
     refine Za6 gC2 rfl (Zd (Za8 (Zw ?_)))
     have N2:=N1.turned (h':=h2.update C (Zac λ _=>#[])) (t':=tk) fC λ b o hb e=>(Zs _ _ (ZI hb)).trans e
     exact hR _ _ (K _ _ _ _ N2 .refl rb)
    ·exact Zf K
   | _=>exact Zf K
 | succ r ih =>
  intro j z H ι h b kb vb uk c hr h0 hj N g hi fI fC st gC rb rk K
  unfold Qa at K
  cases eh:h[i]? with
  | none=>rw[eh] at K;exact Zf K
  | some ob =>
   rw[eh] at K
   cases ob with
   | lst ys =>
    dsimp only at K
    split at K
    ·rename_i hlen
     obtain⟨ws,e1,r3⟩:=N.at eh hi
     obtain⟨its,rv2,pl,_⟩:=N.inv.list (SqL.of e1)
     have ne:l≠I:=λ q=>by have:=fI.1;rw[<- q,e1] at this;cases this
     have sz:its.toArray.size=n:=by
      rw[Zu,<-rv2.length,r3.length,hlen]
     have ej:n-(r+1)=j:=by omega
     rw[ej] at K
     have W:=ZbT (prog:=X.prog) (w:=X.w) (A:=A.in1) hh I l ne its.toArray
     refine Zal Zbc ?_
     rw[ZO ZP _]
     show Zy _ A.in1 (Zb2 (.ref C)>>=_) _ _ z
     refine Zd (ZaG gC rfl ?_)
     show Zy _ A.in1 (tryCatch (ZbG (.ref I)) _>>=_) _ _ z
     refine Zd (ZV (W.item j z _ _ (by rw[sz];omega) ⟨st,pl.isList⟩ λ y h2 tk hP st2 keep=>?_))
     have ey:its[j]?=Za y:=by simpa using hP
     obtain⟨x,ex,rx⟩:=Y9 rv2 ey
     obtain⟨yv,eyv,qy⟩:=r3.get' ex
     rw[eyv] at K
     dsimp only at K
     have gC2:=keep C _ (λ q=>hIC (Zv.mp q).symm) gC
     have N1:=N.turned (h':=h2) (t':=tk) fI λ b o hb e=>keep b o (λ q=>hb (Zv.mp q)) e
     obtain⟨oI,hoI,hoc,hod⟩:=id st2.1
     have N2:=(N1.pinO gC2 fC λ v z=>by cases z).pinO hoI (FpOk.more (p:=(C,Zaf "list" #[vb,uk] c)) fI (ZI hIC)) λ v z=>by rw[hod] at z;cases z
     rw[Zad] at N2
     show Zy _ A.in1 (tryCatch (Zb7 [y] (call (.ref fq) [y])) _>>=_) _ _ _
     refine Zd (ZV (ZU (nof (ko _ _ _ _ _ yv y _ N2 g ⟨x,rx,qy⟩ (Yu K λ k h3 u s3 H3 ι3 N3 n3 ru K3=>?_)))))
     have pC:=N3.inv.pin (C,Zaf "list" #[vb,uk] c) (Zi _ (Zi _ (by simp)))
     have pI:=N3.inv.pin (I,oI) (Zi _ (Zi _ (by simp)))
     have N4:=N3.pins
     have hi3:=n3.at hi
     have g3:=hG _ _ n3.ext g
     have fI3:=FpOk.at (H':=H3) fI pI.2.1
     have fC3:=FpOk.at (H':=H3) fC pC.2.1
     have it3:s3.heap.IsListIter I l (j+1):=⟨oI,pI.1,hoc,hod⟩
     have ry3:RU X.K ι3 H3 yv y:=RU.mono n3 ⟨x,rx,qy⟩
     cases eg:gt k kb with
     | none=>rw[eg] at K3;exact Zf K3
     | some bb =>
      show Zy _ A.in1 (tryCatch (Zb7 [y,u] (Zcg .Gt u uk>>=_)) _>>=_) _ _ _
      refine Zd (ZV (ZU (Zd (cm _ _ _ _ _ _ _ k kb u uk bb _ _ N4 ru (rk.mono n3) eg λ h5 t5 k5=>?_))))
      refine Zd (ZU (ZaK ?_))
      refine Zd (Za8 (Zw ?_))
      have N5:=N4.keptH (h':=h5) (t':=t5) k5
      have gC5:=k5 _ _ pC.1
      obtain⟨oI5,hoI5,hoc5,hod5⟩:=id it3
      have it5:h5.IsListIter I l (j+1):=⟨oI5,k5 _ _ hoI5,hoc5,hod5⟩
      rw[eg] at K3
      cases bb with
      | true =>
       simp only[if_true]
       refine Zd ?_
       refine Za6 gC5 rfl (Zd (Za8 ?_))
       rw[VL]
       have N6:=N5.turned (h':=h5.update C (Zac λ _=>#[y,u])) (t':=t5) fC3 λ b o hb e=>(Zs _ _ (ZI hb)).trans e
       obtain⟨c2,hc2⟩:∃c2,(h5.update C (Zac λ _=>#[y,u])).get? C=Za (Zaf "list" #[y,u] c2):=⟨_,Zb3 gC5 λ _=>#[y,u]⟩
       refine Zw ⟨Zas ZP _,ih (j+1) _ H3 ι3 h3 yv k y u c2 (by omega) (by omega) (by omega) N6 g3 hi3 fI3 fC3 ?_ hc2 ry3 ru K3⟩
       exact⟨oI5,(Zs _ _ (ZI hIC)).trans (k5 _ _ hoI5),hoc5,hod5⟩
      | false =>
       simp only[ZW,if_false]
       refine Zd (Za8 ?_)
       rw[VL]
       exact Zw ⟨Zas ZP _,ih (j+1) _ H3 ι3 h3 b kb vb uk c (by omega) (by omega) (by omega) N5 g3 hi3 fI3 fC3 it5 gC5 (rb.mono n3) (rk.mono n3) K3⟩
    ·exact Zf K
   | _=>exact Zf K
theorem Jpo (a v d:Ze):ZdP "max" ⟨[a],[(Zae "key",v),(Zae "default",d)]⟩:=by unfold ZdP;kernel_rfl
theorem Jtt {z:Zm}{H:Hp}{ι:List Zp}{h:IH}{dv:IV}{d:Ze}(hh:A.handled=Zc)(cm:CmpK ce X A.in1 .Gt gt)(ko:Xo ce X A.in1 σi σ pj G (.ref fq) mk)(hG:∀H H',Ext H H'->G H->G H')(N:Now ce X pj ι σi h σ H z)(g:G H)(hi:ι[i]?=Za l)(rd:RU X.K ι H dv d)
  (K:Kont ce X RU pj ι σi σ H (X1 gt mk i dv h) Q E):Zy (Z9 X.prog X.w) A (call (.builtin "max") [.ref l] [(Zae "key",.ref fq),(Zae "default",d)]) Q E z:=by
 unfold X1 at K
 cases eh:h[i]? with
 | none=>rw[eh] at K;exact Zf K
 | some ob =>
  rw[eh] at K
  cases ob with
  | lst ys =>
   dsimp only at K
   obtain⟨ws,e1,r3⟩:=N.at eh hi
   obtain⟨its,rv2,pl,_⟩:=N.inv.list (SqL.of e1)
   have hl:=pl.isList
   obtain⟨ol,hol,_⟩:=id hl
   have lt:l<z.heap.objs.size:=Z0 hol
   have sz:its.toArray.size=ys.length:=by rw[Zu,<-rv2.length,r3.length]
   refine kmk_tree PySem.F.kind_max PySem.F.plain_max PySem.F.entry_max (Jpo _ _ _) ?_
   show Zy _ A.in1 (Zaq "max" ["key","default"] 0 ⟨[],[(Zae "key",.ref fq),(Zae "default",d)]⟩>>=_) _ _ z
   refine Zd (Zed (show Zaq "max" ["key","default"] 0 ⟨[],[(Zae "key",.ref fq),(Zae "default",d)]⟩=pure [Za (.ref fq),Za d] from rfl) ?_)
   refine Zd (Zw ?_)
   refine Zd (ZaN hl ?_)
   refine Zd (Zcb ?_ (ZY _))
   rw[VL]
   have ne:l≠z.heap.objs.size:=Z8 lt
   have W:=ZbT (prog:=X.prog) (w:=X.w) (A:=A.in1) hh z.heap.objs.size l ne its.toArray
   have hS:(z.heap.push { cls:=.type "list_iterator",data:=.fields #[.ref l,.int 0 0] }).objs.size=z.heap.objs.size+1:=Zdn ..
   obtain⟨C,hC⟩:∃C,C=(z.heap.push { cls:=.type "list_iterator",data:=.fields #[.ref l,.int 0 0] }).objs.size:=⟨_,rfl⟩
   have hIC:z.heap.objs.size≠C:=by rw[hC,hS];exact Z8 (Zaz _)
   have old:∀b o,z.heap.get? b=Za o->((z.heap.push { cls:=.type "list_iterator",data:=.fields #[.ref l,.int 0 0] }).push (Zaf "list" #[] 0)).get? b=Za o:=λ b o e=>Zg _ (Zg _ e)
   have gI:((z.heap.push { cls:=.type "list_iterator",data:=.fields #[.ref l,.int 0 0] }).push (Zaf "list" #[] 0)).get? z.heap.objs.size=Za { cls:=.type "list_iterator",data:=.fields #[.ref l,.int 0 0] }:=Zg _ (Zz _ rfl)
   have gC:((z.heap.push { cls:=.type "list_iterator",data:=.fields #[.ref l,.int 0 0] }).push (Zaf "list" #[] 0)).get? C=Za (Zaf "list" #[] 0):=by rw[hC];exact Zz _ rfl
   rw[<- hC]
   have fI:FpOk X pj H z.heap.objs.size:=N.inv.fpOk (Zq _) (N.inv.hok.fresh (Zq _))
   have fC:FpOk X pj H C:=N.inv.fpOk (by rw[hC,hS];exact ZaL _) (N.inv.hok.fresh (by rw[hC,hS];exact ZaL _))
   have N0:=N.keptH (t':=z.toks) old
   refine Zw ⟨Zas ZP _,Zal Zbc ?_⟩
   rw[ZO ZP _]
   show Zy _ A.in1 (Zb2 (.ref _)>>=_) _ _ _
   refine Zd (ZaG gC rfl ?_)
   show Zy _ A.in1 (tryCatch (ZbG (.ref z.heap.objs.size)) _>>=_) _ _ _
   cases e0:ys[0]? with
   | none =>
    have h0:ys.length=0:=by
     have:=List.getElem?_eq_none_iff.mp e0
     omega
    rw[e0] at K
    refine Zd (ZV (W.done _ _ _ (by rw[sz,h0];exact⟨⟨_,gI,rfl,rfl⟩,(hl.push _).push _⟩) λ h2 tk keep=>?_))
    have N1:=N0.turned (h':=h2) (t':=tk) fI λ b o hb e=>keep b o (λ q=>hb (Zv.mp q)) e
    show Zy _ A.in1 (rule _>>=_) _ _ _
    refine Zd (ZdQ (Zw ?_))
    exact K _ _ _ _ N1 .refl rd
   | some yv =>
    have h0:0<ys.length:=(Zo.mp e0).1
    rw[e0] at K
    dsimp only at K
    refine Zd (ZV (W.item 0 _ _ _ (by rw[sz];exact h0) ⟨⟨_,gI,rfl,rfl⟩,(hl.push _).push _⟩ λ y h2 tk hP st2 keep=>?_))
    have ey:its[0]?=Za y:=by simpa using hP
    obtain⟨x,ex,rx⟩:=Y9 rv2 ey
    obtain⟨yv',eyv,qy⟩:=r3.get' ex
    rw[e0] at eyv
    cases eyv
    have gC2:=keep C _ (λ q=>hIC (Zv.mp q).symm) gC
    have N1:=N0.turned (h':=h2) (t':=tk) fI λ b o hb e=>keep b o (λ q=>hb (Zv.mp q)) e
    obtain⟨oI,hoI,hoc,hod⟩:=id st2.1
    have N2:=(N1.pinO gC2 fC λ v z=>by cases z).pinO hoI (FpOk.more (p:=(C,Zaf "list" #[] 0)) fI (ZI hIC)) λ v z=>by rw[hod] at z;cases z
    rw[Zad] at N2
    show Zy _ A.in1 (tryCatch (Zb7 [y] (call (.ref fq) [y])) _>>=_) _ _ _
    refine Zd (ZV (ZU (nof (ko _ _ _ _ _ yv y _ N2 g ⟨x,rx,qy⟩ (Yu K λ k h3 u s3 H3 ι3 N3 n3 ru K3=>?_)))))
    have pC:=N3.inv.pin (C,Zaf "list" #[] 0) (Zi _ (Zi _ (by simp)))
    have pI:=N3.inv.pin (z.heap.objs.size,oI) (Zi _ (Zi _ (by simp)))
    have N4:=N3.pins
    have fI3:=FpOk.at (H':=H3) fI pI.2.1
    have fC3:=FpOk.at (H':=H3) fC pC.2.1
    have ry3:RU X.K ι3 H3 yv y:=RU.mono n3 ⟨x,rx,qy⟩
    show Zy _ A.in1 (ZcO C (λ _=>#[y,u])>>=_) _ _ _
    refine Zd ?_
    refine Za6 pC.1 rfl ?_
    rw[VL]
    have N6:=N4.turned (h':=s3.heap.update C (Zac λ _=>#[y,u])) (t':=s3.toks) fC3 λ b o hb e=>(Zs _ _ (ZI hb)).trans e
    obtain⟨c2,hc2⟩:∃c2,(s3.heap.update C (Zac λ _=>#[y,u])).get? C=Za (Zaf "list" #[y,u] c2):=⟨_,Zb3 pC.1 λ _=>#[y,u]⟩
    refine Zw ⟨Zas ZP _,Jtu hh cm ko hG (λ v s' q=>q) hIC (ys.length-1) 1 _ H3 ι3 h3 yv k y u c2 rfl (by omega) (by omega) N6 (hG _ _ n3.ext g) (n3.at hi) fI3 fC3 ?_ hc2 ry3 ru K3⟩
    exact⟨oI,(Zs _ _ (ZI hIC)).trans pI.1,hoc,hod⟩
  | _=>exact Zf K
end
theorem Kont.more {α β:Type}{R:REL α β}{pj pl:PnT}{ι:List Zp}{σi:ISt}{σ:L2.St}{H:Hp}{r:Res α}{Q:β->Zm->Prop}{E:QvT}(K:Kont ce X R pj ι σi σ H r Q E):Kont ce X R (pj++pl) ι σi σ H r Q E:=by
 cases r with
 | ok v h'=>exact λ u s' H' ι' N n q=>K u s' H' ι' N.pins n q
 | exc m h'=>exact λ pl' a s' H' ι' N n q=>K (pl++pl') a s' H' ι' (by rw[<- Zad];exact N) n q
 | stuck=>exact K
def Yh (gt:IV->IV->Option Bool)(q:Str)(j:Nat)(js:List Nat)(aa:A1)(m md:E1):E1:=λ σ h=>(aa σ h).bind λ xs h1=>match h1[j]? with
 | some (.tab q')=>if q'=q then(md σ h1).bind λ d h2=>(match xs with
  | [.ref i]=>X1 gt (λ v h'=>m (Za v::js.map λ j=>(σ[j]?).join) h') i d h2
  | _=>.stuck) else .stuck
 | _=>.stuck
theorem Jjh {params:Zca}{x:Str}{env:Env}(hx:QE params=Za x):defaultsOf params env=([],[]):=by
 unfold QE at hx
 split at hx
 ·rfl
 ·cases hx
theorem Jzo {k:Nat}{q x:Str}{caps:List Str}{js:List Nat}{j:Nat}{a body de:Expr}{aa:A1}{m md:E1}{params:Zca}{scope:Zbm}{p lp pos kp kp2:Pos}(hg:Gl X "max")(hm:X.mg "max"=Zc)(ha:PAi ce X [a] aa)(hd:PEi ce X de md)(hs:ZD [a] X.env=[(Zk,ZaY a X.env)])
  (hr:Room (k+2) X.A)(hcd:W.codeIn X.K X.env.code q=Zh)(hq:X.env.qual=q++".<locals>.")(B:Qw X.mg X.base)(hx:QE params=Za x)(S:LamSc X.N X.env.scope.names x caps js scope)
  (hb:∀f cd s' H',PEi ce (cxL X X.A.in1 (x::caps) q scope f cd s' H') body m) :
  PEi ce X (.Call (.Name "max" p) [a] [⟨Za "key",.Lambda params body scope lp,kp⟩,⟨Za "default",de,kp2⟩] pos) (Yh gtZ q j js aa m md):=λ pj s σ H ι σi h Q E N K=>by
 have hcl:ZcN scope X.env=pure (clOf X.env.cells scope.names []):=Jat λ y hm hk=>N.inv.ok.has y.1 (.inl (S.free y hm hk))
 refine Zaj (Qr N.inv hg hm rfl ?_)
 refine Zef ?_ (by rw[hs];rfl) (by rw[hs];rfl) rfl rfl
 refine(ha pos).run N K λ xs h1 us s1 H1 ι1 N1 n1 r1 K1=>?_
 cases ej:h1[j]? with
 | none=>rw[ej] at K1;exact Zf K1
 | some ob =>
  rw[ej] at K1
  cases ob with
  | tab q' =>
   dsimp only at K1
   split at K1
   ·rename_i eq
    subst eq
    refine ZaI (Zd (Jji N1 ej hcd hq (Jjh hx) hcl B λ f c pm ctv s2 H2 N2 n2 LC=>Zd (Zbo (Zw ?_))))
    refine ZaI (Zd (PX.run hd N2 (Kont.more (Kont.mono K1 n2)) λ d h3 du s3 H3 ι3 N3 n3 r3 K3=>Zd (Zbo (Zw (ZbC ?_)))))
    obtain⟨vs,rv,qs⟩:=r1.mono (n2.trans n3)
    match xs,K3 with
    | [.ref i],K3 =>
     obtain⟨w,rfl,ad,rfl,hav⟩:=qs.one_of
     obtain⟨u,rfl,ru⟩:=QN rv
     cases ru
     refine Jtt (G:=λ H=>Q8 H q' (.ref c)) (mk:=λ v h'=>m (Za v::js.map λ j=>(σi[j]?).join) h') hr.hd Jy4 ?_ (λ H H' e g=>g.mono e.frzs) N3 (LC.mono n3.ext.frzs) hav r3 ?_
     ·intro pl s4 H4 ι4 h4 v u Q4 N4 g4 ru4 K4
      have pf:=N4.inv.pin (f,lamO q' params body scope (clOf X.env.cells scope.names []) pm ctv c) (Zi _ (Zah _ (Zi _ (Zv.mpr rfl))))
      exact Jme (A:=X.A.in1) N.inv.ok.frames hr.in1 N4 pf.1 g4 hx S (hb f (.ref c)) ru4 K4
     ·exact K3
    | [],K3=>exact Zf K3
    | [.non],K3=>exact Zf K3
    | [.bl _],K3=>exact Zf K3
    | [.int _],K3=>exact Zf K3
    | [.str _],K3=>exact Zf K3
    | [.tup _],K3=>exact Zf K3
    | [.rol _],K3=>exact Zf K3
    | x::_::_,K3=>cases x<;>exact Zf K3
   ·exact Zf K1
  | _=>exact Zf K1
end
section
variable {ce:CeT}{X:Cx}{C:Zp}{x c:Str}{np cpos pos:Pos}{e:Expr}{es:List Expr}{ma:A1}
end
section
variable {ce:CeT}{X:Cx}{a C:Zp}{pj:PnT}{σ:L2.St}{H:Hp}{s:Zm}{ι:List Zp}{σi:ISt}{h:IH}{n:Nat}{c:Str}{fs:List (Str×IV)}{tv:Ze}
end
section
variable {ce:CeT}{X:Cx}
def slT:IV->Option Int->Option Int->IH->Res IV
 | .str x,lo,hi,h=>if x.length<=sizeLine then .ok (.str (Zel x lo hi)) h else .stuck
 | x,lo,hi,h=>slI x lo hi h
theorem J3r:SlI ce X slT:=by
 intro pj s σ H ι σi h x v vl vu lo hi sl Q E N rx hs pl pu K
 cases x with
 | str x =>
  obtain⟨xv,rx,qx⟩:=rx
  cases (show xv=.str x from qx)
  obtain⟨t,rfl⟩:=rx
  dsimp only[slT] at K
  split at K
  ·rename_i hz
   refine⟨"str",_,F.slot_str_getitem.lookup,typeIs_str _ _ _,?_⟩
   cases pl with
   | none =>
    cases pu with
    | none=>exact ZbK (l:=Zc) (u:=Zc) (st:=Zc) hs rfl (ZcZ ⟨ZZ (ZdR x _ _) hz,λ t' k=>fin0 N K rfl _ _ (N.inv.tok _) ⟨_,rfl⟩⟩)
    | int j tj=>exact ZbK (l:=Zc) (u:=Za (j,tj)) (st:=Zc) hs rfl (ZcZ ⟨ZZ (ZdR x _ _) hz,λ t' k=>fin0 N K rfl _ _ (N.inv.tok _) ⟨_,rfl⟩⟩)
   | int i ti =>
    cases pu with
    | none=>exact ZbK (l:=Za (i,ti)) (u:=Zc) (st:=Zc) hs rfl (ZcZ ⟨ZZ (ZdR x _ _) hz,λ t' k=>fin0 N K rfl _ _ (N.inv.tok _) ⟨_,rfl⟩⟩)
    | int j tj=>exact ZbK (l:=Za (i,ti)) (u:=Za (j,tj)) (st:=Zc) hs rfl (ZcZ ⟨ZZ (ZdR x _ _) hz,λ t' k=>fin0 N K rfl _ _ (N.inv.tok _) ⟨_,rfl⟩⟩)
  ·exact Zf K
 | _=>exact x_sl pj s σ H ι σi h _ v vl vu lo hi sl Q E N rx hs pl pu K
end
theorem Jpm (a:Ze):ZdP "max" ⟨[a],[]⟩:=by unfold ZdP;kernel_rfl
section
variable {ce:CeT}{X:Cx}
def VZ:IV->IH->Res IV
 | .ref i,h=>match h[i]? with
  | some (.lst xs)=>(match JH xs with
   | some ns=>if ns=[] then .stuck else .ok (.int (JJ (λ i=>ns.getD i 0) ns.length)) h
   | none=>.stuck)
  | _=>.stuck
 | _,_=>.stuck
theorem Jy1 (hh:X.A.handled=Zc):Qx ce X (.builtin "max") (on1 VZ):=VD λ pj s σ H ι σi h x xv u Q E N ru qx K=>by
 cases x with
 | ref i =>
  obtain⟨a,e1,ha⟩:=qx
  subst e1
  cases ru
  dsimp only[VZ] at K
  cases hi:h[i]? with
  | none=>rw[hi] at K;exact Zf K
  | some ob =>
   rw[hi] at K
   cases ob with
   | lst xs =>
    dsimp only at K
    cases hb:JH xs with
    | none=>rw[hb] at K;exact Zf K
    | some ns =>
     rw[hb] at K
     dsimp only at K
     split at K
     ·exact Zf K
     ·rename_i hne
      obtain⟨vs,e1,r1⟩:=N.at hi ha
      obtain⟨its,rv,pl,hz⟩:=N.inv.list (SqL.of e1)
      refine Jra (d:=Zc) rfl (Jpm _) (λ q=>absurd q hne) hh pl.isList (Vy hb r1 rv) λ v h2 tk mi kk=>?_
      rcases mi with⟨e,_⟩|⟨_,t,ev⟩
      ·exact absurd e hne
      ·subst ev
       exact fin0 N K rfl _ _ (N.inv.kept (t':=tk) kk) ⟨t,rfl⟩
   | _=>exact Zf K
 | _=>exact Zf K
structure BasK (K:W.Frag)(C:Zp):Prop where
 sp:W.specialIn K (.ref C) "__getattribute__"=Za (Za (.builtin "type.__getattribute__"))
 rd:W.readsIn K C (.type "type")=Zh
 fc:∃fa,W.findIn K (.ref C) "__init__"=Za (Za (.ref fa))/\W.findCls K (.ref C) (.type "type") "__init__"=Za (.val (.ref fa))/\W.keepIn K (.ref fa)=Zh
variable {k:Nat}{fa C:Zp}{fd:ZaH}{ps:List Str}{f:List IV->IH->Res IV}{dvs:List IV}{ds:List Ze}{x:Str}{p pos apos:Pos}{e:Expr}{es:List Expr}{ma:A1}{pl:Sem Bool}
theorem Jzh (F:FnOk X.prog X.w X.K X.mg X.base (CXI X.prog X.w) k fa fd ps (spI ce X.K ps f))(hr:Room k X.A)(hg:Gl X x)(hm:X.mg x=Za (.ref C))(B:BasK X.K C)(M:Mk X.K C fa)(hb:Qi X.K fd ps ds)(hd:∃vs,Vals vs ds/\∀ι H,RVs X.K ι H dvs vs) 
  (ha:PAi ce X (e::es) ma)(hlen:∀σ h xs h',ma σ h=.ok xs h'->xs.length+ds.length=ps.length)(hdb:(x==("__debug__":Str))=Zk:=by decide)(he:ZD (e::es) X.env=(Zk,ZaY e X.env)::ZD es X.env:=by rfl)(hpl:(Zbq pos (ZD es X.env)).any (·.1)=Zk:=by rfl)
  (ht:ZaY (.Call (.Attribute (.Name x p) "__init__" apos) (e::es) [] pos) X.env=(do
   let ov<-ZaY (.Name x p) X.env
   Ze3 apos.atName
   let (f,first)<-Zb7 [ov] (Zd4 ov "__init__" pl)
   callWith pos f first (Zbq pos (ZD (e::es) X.env)) (Zd9 pos (Zc3 [] X.env))):=by rfl) :
  PEi ce X (.Call (.Attribute (.Name x p) "__init__" apos) (e::es) [] pos) (Jn f dvs ma):=by
 intro pj s σ H ι σi h Q E N K
 obtain⟨fa',f1,f2,hk⟩:=B.fc
 have ef:fa'=fa:=by
  have:=f1.symm.trans M.init
  cases this
  rfl
 subst ef
 refine W.methodCall_KW (pl:=pl) (VX N.inv hg hm ?_ hdb) ht
 refine W.method_cls N.inv.kIn B.sp (W.cls_value N.inv.kIn B.rd f2 rfl ?_)
 have N':Now ce X pj ι σi h σ H { s with toks:=s.toks+1 }:=⟨N.inv.tok _,N.rel,N.st⟩
 refine W.callWith_K (h₀:=X.base) N.inv.ok.mod.kin hk ?_ he hpl
 have K':=K
 unfold Jn at K'
 refine ha pos pj _ σ H ι σi h _ E N' ?_
 cases e0:ma σi h with
 | exc n h'=>rw[e0] at K';exact K'
 | stuck=>rw[e0] at K';exact K'
 | ok xs h' =>
  rw[e0] at K'
  intro us s1 H1 ι1 N1 n1 r1
  have hl:xs.length=us.length:=by
   obtain⟨vs,rv,q⟩:=r1
   rw[<- rv.length,q.length]
  have hl2:=hlen σi h xs h' e0
  exact⟨N1.inv.kIn,Yy (us:=us) F hr hb hd (by omega) N1 r1 (Kont.mono (r:=f (xs++dvs) h') K' n1)⟩
end
section
variable {prog:ZB}{w:Zab}{A:ZN}{E:QvT}{s:Zm}{x y:Str}{t u:Tok}{Q:QvT}
open Builtin Builtin.Str in
end
section
variable {ce:CeT}{X:Cx}
end
section
variable {prog:ZB}{w:Zab}{A:ZN}{E:QvT}{s:Zm}
end
section
variable {ce:CeT}{X:Cx}
end
section
variable {ce:CeT}{X:Cx}{pj:PnT}{σ:L2.St}{H:Hp}{s:Zm}{ι:List Zp}{σi:ISt}{h:IH}{n:Nat}{c:Str}{fs:List (Str×IV)}{a:Zp}
end
section
variable {P:ZB}{w:Zab}{K:W.Frag}{mg:Str->Option Ze}{base:Zax}{ce:CeT}
end
section
variable {ce:CeT}{X:Cx}
end
section
variable {prog:ZB}{w:Zab}{A:ZN}{E:QvT}{s:Zm}
end
def neIn (K:W.Frag)(C:Zp):Bool:=match K.lookup C with
 | some ⟨.type "type",_,.cls cd,sl⟩=>(match cd.mro,sl.toList with
  | [.ref C',.type "object"],[_,_,_,_,Za (.builtin _),_]=>C'==C&&!cd.hasDel&&W.nsOkIn K cd.ns&&W.nsIn K cd.ns "__eq__"==Za Zc&&W.nsIn K cd.ns "__ne__"==Za Zc
  | _,_=>Zk)
 | _=>Zk
section
variable {ce:CeT}{X:Cx}{pj:PnT}{s:Zm}{σ:L2.St}{H:Hp}{ι:List Zp}{σi:ISt}{h:IH}
end
section
variable {ce:CeT}{X:Cx}
end
section
variable {X:Cx}
end
section
variable {ce:CeT}{X:Cx}
end
def VB:Ty->Option Bool
 | .lst=>Za Zh|.ins c=>if c=="Work" then Za Zk else Zc|.exc _=>Zc|_=>Za Zk
theorem Jos {ce:CeT}{K:W.Frag}(h:∀C,ce "Work"=Za C->ClsI K C/\W.kitOne K (.ref C) (.type "list")=Za Zk):IsOk ce K (.type "list") VB:=by
 have O:IsOk ce K (.type "list") Ve:=Jk4
 refine⟨O.non,O.bl,O.int,O.str,O.lst,O.tup,O.dct,λ k C b e hk=>?_,(λ k C b e=>by cases e)⟩
 unfold VB at e
 dsimp only at e
 split at e
 ·rename_i q
  cases beq_iff_eq.mp q
  cases e
  exact h C hk
 ·cases e
section
variable {ce:CeT}{X:Cx}{x:Expr}{m:E1}{pos:Pos}
end
section
variable {prog:ZB}{w:Zab}{A:ZN}{E:QvT}{hp:Zax}{ge:Array Zey}{dr:Drawn}{tk:Nat}{ox:OsState}
variable {nm qn:Str}{C Na:Zp}{bs bm bmB:List Ze}{hdct:Bool}{sn:List Str}{sub:List Ze}{ab:Bool}{col:Option Bool}{dd:Option Zp}{k0 k1 k2 k3 k5:Option Ze}{B Bn newId nid initId inN:String}{bmN:List Ze}
end
section
variable {X:Cx}{pj:PnT}{σ:L2.St}{H:Hp}{s:Zm}{k:Nat}{f C:Zp}{fd:ZaH}{ps:List Str}{sp:Sp}{dvs:List V}{ds:List Ze}{E:XK}{Q:VK}{us:List Ze}{vs:List V}{W:QvT}
end
section
variable {ce:CeT}{X:Cx}{k:Nat}{fa C:Zp}{fd:ZaH}{ps:List Str}{f:List IV->IH->Res IV}{dvs:List IV}{ds:List Ze}{x c:Str}{p pos:Pos}{e:Expr}{es:List Expr}{ma:A1}
end
section
variable {X:Cx}{pj:PnT}{σ:L2.St}{H:Hp}{s:Zm}{f C e:Zp}{tv:Ze}{d:Option Zp}{us:List Ze}
end
section
variable {ce:CeT}{X:Cx}{D:Zp}{x:Str}{p pos apos:Pos}{e:Expr}{es:List Expr}{ma:A1}{pl:Sem Bool}
end
section
variable {prog:ZB}{w:Zab}{A:ZN}{K:W.Frag}{C x:Zp}{s:Zm}{R:ZdK->Zm->Prop}{ox:Obj}{name:Str}{v:Ze}
end
section
variable {prog:ZB}{w:Zab}{A:ZN}{K:W.Frag}{C x:Zp}{s:Zm}{ox:Obj}{name:Str}{v:Ze}
end
section
variable {ce:CeT}{X:Cx}{o value:Expr}{mo mv:E1}{pos pos':Pos}{fl:Str}
end
end L3
namespace L3
open PySem PySem.Spec PySem.Calls PyProof.Rows L2
section
variable {prog:ZB}{w:Zab}{A:ZN}{E:QvT}{s:Zm}{K:W.Frag}{x D:Zp}{ox od:Obj}{f:Str}{v:Ze}
end
section
variable {ce:CeT}{X:Cx}{o:Expr}{mo:E1}{pos:Pos}{fl:Str}
end
section
variable {ce:CeT}{X:Cx}
end
end L3
namespace L3
open PySem PySem.Spec PyProof.Rows L2
section
variable {ce:CeT}{X:Cx}
end
section
variable {α β γ δ:Type}{ce:CeT}{X:Cx}{R:REL α β}{R':REL γ δ}{a:Zp}{n:Nat}
variable {b c:Expr}{pos:Pos}{rest:List Expr}{ta tb:T1}{mb:E1}
end
def X2 (gt:IV->IV->Option Bool)(mk:IV->IH->Res IV)(i:Nat)(h:IH):Res IV:=match h[i]? with
 | some (.lst ys)=>(match ys[0]? with
  | some y=>(mk y h).nx.bind λ k h'=>Qa gt mk i ys.length (ys.length-1) y k h'
  | none=>.stuck)
 | _=>.stuck
theorem Jgb:(toString "min"++toString ".loop":String)="min.loop":=by decide
section
variable {ce:CeT}{X:Cx}
section
variable {A:ZN}{R:ZdK->Zm->Prop}{Q:QvT}{E:QvT}{pj:PnT}{σi:ISt}{σ:L2.St}{G:Hp->Prop}{fq:Zp}{mk:IV->IH->Res IV}{gt:IV->IV->Option Bool}{i n:Nat}{l I C:Zp}{kw:List (Str×Ze)}
theorem Jts (hh:A.handled=Zc)(cm:CmpK ce X A.in1 .Lt gt)(ko:Xo ce X A.in1 σi σ pj G (.ref fq) mk)(hG:∀H H',Ext H H'->G H->G H')(hR:∀v s',Q v s'->R (.ok (.ret v)) s')(hIC:I≠C) :
  ∀(r j:Nat)(z:Zm)(H:Hp)(ι:List Zp)(h:IH)(b kb:IV)(vb uk:Ze)(c:Nat),n-j=r->0<j->j<=n->Now ce X pj ι σi h σ H z->G H->ι[i]?=Za l->FpOk X pj H I->FpOk X pj H C->z.heap.IsListIter I l j ->
   z.heap.get? C=Za (Zaf "list" #[vb,uk] c)->RU X.K ι H b vb->RU X.K ι H kb uk->Kont ce X RU pj ι σi σ H (Qa gt mk i n r b kb h) Q E ->
   Zcv (Z9 X.prog X.w) A (.builtin "min.loop" ⟨[.ref I,.ref fq,.ref C],kw⟩) R z:=by
 intro r
 induction r with
 | zero =>
  intro j z H ι h b kb vb uk c hr h0 hj N g hi fI fC st gC rb rk K
  obtain rfl:j=n:=by omega
  unfold Qa at K
  cases eh:h[i]? with
  | none=>rw[eh] at K;exact Zf K
  | some ob =>
   rw[eh] at K
   cases ob with
   | lst ys =>
    dsimp only at K
    split at K
    ·rename_i hlen
     obtain⟨ws,e1,r3⟩:=N.at eh hi
     obtain⟨its,rv2,pl,_⟩:=N.inv.list (SqL.of e1)
     have ne:l≠I:=λ q=>by have:=fI.1;rw[<- q,e1] at this;cases this
     have sz:its.toArray.size=j:=by
      rw[Zu,<-rv2.length,r3.length,hlen]
     have W:=ZbT (prog:=X.prog) (w:=X.w) (A:=A.in1) hh I l ne its.toArray
     refine Zal Zbd ?_
     rw[ZO ZQ _]
     show Zy _ A.in1 (Zb2 (.ref C)>>=_) _ _ z
     refine Zd (ZaG gC rfl ?_)
     show Zy _ A.in1 (tryCatch (ZbG (.ref I)) _>>=_) _ _ z
     refine Zd (ZV (W.done z _ _ ⟨by rw[sz];exact st,pl.isList⟩ λ h2 tk keep=>?_))
     have gC2:=keep C _ (λ q=>hIC (Zv.mp q).symm) gC
     have N1:=N.turned (h':=h2) (t':=tk) fI λ b o hb e=>keep b o (λ q=>hb (Zv.mp q)) e
     show Zy _ A.in1 (ZcO C (λ _=>#[])>>=_) _ _ _
     refine Zd ?_
     refine Za6 gC2 rfl (Zd (Za8 (Zw ?_)))
     have N2:=N1.turned (h':=h2.update C (Zac λ _=>#[])) (t':=tk) fC λ b o hb e=>(Zs _ _ (ZI hb)).trans e
     exact hR _ _ (K _ _ _ _ N2 .refl rb)
    ·exact Zf K
   | _=>exact Zf K
 | succ r ih =>
  intro j z H ι h b kb vb uk c hr h0 hj N g hi fI fC st gC rb rk K
  unfold Qa at K
  cases eh:h[i]? with
  | none=>rw[eh] at K;exact Zf K
  | some ob =>
   rw[eh] at K
   cases ob with
   | lst ys =>
    dsimp only at K
    split at K
    ·rename_i hlen
     obtain⟨ws,e1,r3⟩:=N.at eh hi
     obtain⟨its,rv2,pl,_⟩:=N.inv.list (SqL.of e1)
     have ne:l≠I:=λ q=>by have:=fI.1;rw[<- q,e1] at this;cases this
     have sz:its.toArray.size=n:=by
      rw[Zu,<-rv2.length,r3.length,hlen]
     have ej:n-(r+1)=j:=by omega
     rw[ej] at K
     have W:=ZbT (prog:=X.prog) (w:=X.w) (A:=A.in1) hh I l ne its.toArray
     refine Zal Zbd ?_
     rw[ZO ZQ _]
     show Zy _ A.in1 (Zb2 (.ref C)>>=_) _ _ z
     refine Zd (ZaG gC rfl ?_)
     show Zy _ A.in1 (tryCatch (ZbG (.ref I)) _>>=_) _ _ z
     refine Zd (ZV (W.item j z _ _ (by rw[sz];omega) ⟨st,pl.isList⟩ λ y h2 tk hP st2 keep=>?_))
     have ey:its[j]?=Za y:=by simpa using hP
     obtain⟨x,ex,rx⟩:=Y9 rv2 ey
     obtain⟨yv,eyv,qy⟩:=r3.get' ex
     rw[eyv] at K
     dsimp only at K
     have gC2:=keep C _ (λ q=>hIC (Zv.mp q).symm) gC
     have N1:=N.turned (h':=h2) (t':=tk) fI λ b o hb e=>keep b o (λ q=>hb (Zv.mp q)) e
     obtain⟨oI,hoI,hoc,hod⟩:=id st2.1
     have N2:=(N1.pinO gC2 fC λ v z=>by cases z).pinO hoI (FpOk.more (p:=(C,Zaf "list" #[vb,uk] c)) fI (ZI hIC)) λ v z=>by rw[hod] at z;cases z
     rw[Zad] at N2
     show Zy _ A.in1 (tryCatch (Zb7 [y] (call (.ref fq) [y])) _>>=_) _ _ _
     refine Zd (ZV (ZU (nof (ko _ _ _ _ _ yv y _ N2 g ⟨x,rx,qy⟩ (Yu K λ k h3 u s3 H3 ι3 N3 n3 ru K3=>?_)))))
     have pC:=N3.inv.pin (C,Zaf "list" #[vb,uk] c) (Zi _ (Zi _ (by simp)))
     have pI:=N3.inv.pin (I,oI) (Zi _ (Zi _ (by simp)))
     have N4:=N3.pins
     have hi3:=n3.at hi
     have g3:=hG _ _ n3.ext g
     have fI3:=FpOk.at (H':=H3) fI pI.2.1
     have fC3:=FpOk.at (H':=H3) fC pC.2.1
     have it3:s3.heap.IsListIter I l (j+1):=⟨oI,pI.1,hoc,hod⟩
     have ry3:RU X.K ι3 H3 yv y:=RU.mono n3 ⟨x,rx,qy⟩
     cases eg:gt k kb with
     | none=>rw[eg] at K3;exact Zf K3
     | some bb =>
      show Zy _ A.in1 (tryCatch (Zb7 [y,u] (Zcg .Lt u uk>>=_)) _>>=_) _ _ _
      refine Zd (ZV (ZU (Zd (cm _ _ _ _ _ _ _ k kb u uk bb _ _ N4 ru (rk.mono n3) eg λ h5 t5 k5=>?_))))
      refine Zd (ZU (ZaK ?_))
      refine Zd (Za8 (Zw ?_))
      have N5:=N4.keptH (h':=h5) (t':=t5) k5
      have gC5:=k5 _ _ pC.1
      obtain⟨oI5,hoI5,hoc5,hod5⟩:=id it3
      have it5:h5.IsListIter I l (j+1):=⟨oI5,k5 _ _ hoI5,hoc5,hod5⟩
      rw[eg] at K3
      cases bb with
      | true =>
       simp only[if_true]
       refine Zd ?_
       refine Za6 gC5 rfl (Zd (Za8 ?_))
       rw[Jgb]
       have N6:=N5.turned (h':=h5.update C (Zac λ _=>#[y,u])) (t':=t5) fC3 λ b o hb e=>(Zs _ _ (ZI hb)).trans e
       obtain⟨c2,hc2⟩:∃c2,(h5.update C (Zac λ _=>#[y,u])).get? C=Za (Zaf "list" #[y,u] c2):=⟨_,Zb3 gC5 λ _=>#[y,u]⟩
       refine Zw ⟨Zas ZQ _,ih (j+1) _ H3 ι3 h3 yv k y u c2 (by omega) (by omega) (by omega) N6 g3 hi3 fI3 fC3 ?_ hc2 ry3 ru K3⟩
       exact⟨oI5,(Zs _ _ (ZI hIC)).trans (k5 _ _ hoI5),hoc5,hod5⟩
      | false =>
       simp only[ZW,if_false]
       refine Zd (Za8 ?_)
       rw[Jgb]
       exact Zw ⟨Zas ZQ _,ih (j+1) _ H3 ι3 h3 b kb vb uk c (by omega) (by omega) (by omega) N5 g3 hi3 fI3 fC3 it5 gC5 (rb.mono n3) (rk.mono n3) K3⟩
    ·exact Zf K
   | _=>exact Zf K
theorem Jtr (hh:A.handled=Zc)(cm:CmpK ce X A.in1 .Lt gt)(ko:Xo ce X A.in1 σi σ pj G (.ref fq) mk)(hG:∀H H',Ext H H'->G H->G H')(N:Now ce X pj ι σi h σ H z)(g:G H)(hi:ι[i]?=Za l) 
  (K:Kont ce X RU pj ι σi σ H (X2 gt mk i h) Q E):Zy (Z9 X.prog X.w) A (call (.builtin "min") [.ref l] [(Zae "key",.ref fq)]) Q E z:=by
 unfold X2 at K
 cases eh:h[i]? with
 | none=>rw[eh] at K;exact Zf K
 | some ob =>
  rw[eh] at K
  cases ob with
  | lst ys =>
   dsimp only at K
   obtain⟨ws,e1,r3⟩:=N.at eh hi
   obtain⟨its,rv2,pl,_⟩:=N.inv.list (SqL.of e1)
   have hl:=pl.isList
   obtain⟨ol,hol,_⟩:=id hl
   have lt:l<z.heap.objs.size:=Z0 hol
   have sz:its.toArray.size=ys.length:=by rw[Zu,<-rv2.length,r3.length]
   refine kmk_tree PySem.F.kind_min PySem.F.plain_min PySem.F.entry_min (kmk_min_key _ _) ?_
   show Zy _ A.in1 (Zaq "min" ["key","default"] 0 ⟨[],[(Zae "key",.ref fq)]⟩>>=_) _ _ z
   refine Zd (Zed (show Zaq "min" ["key","default"] 0 ⟨[],[(Zae "key",.ref fq)]⟩=pure [Za (.ref fq),Zc] from rfl) ?_)
   refine Zd (Zw ?_)
   refine Zd (ZaN hl ?_)
   refine Zd (Zcb ?_ (ZY _))
   rw[Jgb]
   have ne:l≠z.heap.objs.size:=Z8 lt
   have W:=ZbT (prog:=X.prog) (w:=X.w) (A:=A.in1) hh z.heap.objs.size l ne its.toArray
   have hS:(z.heap.push { cls:=.type "list_iterator",data:=.fields #[.ref l,.int 0 0] }).objs.size=z.heap.objs.size+1:=Zdn ..
   obtain⟨C,hC⟩:∃C,C=(z.heap.push { cls:=.type "list_iterator",data:=.fields #[.ref l,.int 0 0] }).objs.size:=⟨_,rfl⟩
   have hIC:z.heap.objs.size≠C:=by rw[hC,hS];exact Z8 (Zaz _)
   have old:∀b o,z.heap.get? b=Za o->((z.heap.push { cls:=.type "list_iterator",data:=.fields #[.ref l,.int 0 0] }).push (Zaf "list" #[] 0)).get? b=Za o:=λ b o e=>Zg _ (Zg _ e)
   have gI:((z.heap.push { cls:=.type "list_iterator",data:=.fields #[.ref l,.int 0 0] }).push (Zaf "list" #[] 0)).get? z.heap.objs.size=Za { cls:=.type "list_iterator",data:=.fields #[.ref l,.int 0 0] }:=Zg _ (Zz _ rfl)
   have gC:((z.heap.push { cls:=.type "list_iterator",data:=.fields #[.ref l,.int 0 0] }).push (Zaf "list" #[] 0)).get? C=Za (Zaf "list" #[] 0):=by rw[hC];exact Zz _ rfl
   rw[<- hC]
   have fI:FpOk X pj H z.heap.objs.size:=N.inv.fpOk (Zq _) (N.inv.hok.fresh (Zq _))
   have fC:FpOk X pj H C:=N.inv.fpOk (by rw[hC,hS];exact ZaL _) (N.inv.hok.fresh (by rw[hC,hS];exact ZaL _))
   have N0:=N.keptH (t':=z.toks) old
   refine Zw ⟨Zas ZQ _,Zal Zbd ?_⟩
   rw[ZO ZQ _]
   show Zy _ A.in1 (Zb2 (.ref _)>>=_) _ _ _
   refine Zd (ZaG gC rfl ?_)
   show Zy _ A.in1 (tryCatch (ZbG (.ref z.heap.objs.size)) _>>=_) _ _ _
   cases e0:ys[0]? with
   | none=>rw[e0] at K;exact Zf K
   | some yv =>
    have h0:0<ys.length:=(Zo.mp e0).1
    rw[e0] at K
    dsimp only at K
    refine Zd (ZV (W.item 0 _ _ _ (by rw[sz];exact h0) ⟨⟨_,gI,rfl,rfl⟩,(hl.push _).push _⟩ λ y h2 tk hP st2 keep=>?_))
    have ey:its[0]?=Za y:=by simpa using hP
    obtain⟨x,ex,rx⟩:=Y9 rv2 ey
    obtain⟨yv',eyv,qy⟩:=r3.get' ex
    rw[e0] at eyv
    cases eyv
    have gC2:=keep C _ (λ q=>hIC (Zv.mp q).symm) gC
    have N1:=N0.turned (h':=h2) (t':=tk) fI λ b o hb e=>keep b o (λ q=>hb (Zv.mp q)) e
    obtain⟨oI,hoI,hoc,hod⟩:=id st2.1
    have N2:=(N1.pinO gC2 fC λ v z=>by cases z).pinO hoI (FpOk.more (p:=(C,Zaf "list" #[] 0)) fI (ZI hIC)) λ v z=>by rw[hod] at z;cases z
    rw[Zad] at N2
    show Zy _ A.in1 (tryCatch (Zb7 [y] (call (.ref fq) [y])) _>>=_) _ _ _
    refine Zd (ZV (ZU (nof (ko _ _ _ _ _ yv y _ N2 g ⟨x,rx,qy⟩ (Yu K λ k h3 u s3 H3 ι3 N3 n3 ru K3=>?_)))))
    have pC:=N3.inv.pin (C,Zaf "list" #[] 0) (Zi _ (Zi _ (by simp)))
    have pI:=N3.inv.pin (z.heap.objs.size,oI) (Zi _ (Zi _ (by simp)))
    have N4:=N3.pins
    have fI3:=FpOk.at (H':=H3) fI pI.2.1
    have fC3:=FpOk.at (H':=H3) fC pC.2.1
    have ry3:RU X.K ι3 H3 yv y:=RU.mono n3 ⟨x,rx,qy⟩
    show Zy _ A.in1 (ZcO C (λ _=>#[y,u])>>=_) _ _ _
    refine Zd ?_
    refine Za6 pC.1 rfl ?_
    rw[Jgb]
    have N6:=N4.turned (h':=s3.heap.update C (Zac λ _=>#[y,u])) (t':=s3.toks) fC3 λ b o hb e=>(Zs _ _ (ZI hb)).trans e
    obtain⟨c2,hc2⟩:∃c2,(s3.heap.update C (Zac λ _=>#[y,u])).get? C=Za (Zaf "list" #[y,u] c2):=⟨_,Zb3 pC.1 λ _=>#[y,u]⟩
    refine Zw ⟨Zas ZQ _,Jts hh cm ko hG (λ v s' q=>q) hIC (ys.length-1) 1 _ H3 ι3 h3 yv k y u c2 rfl (by omega) (by omega) N6 (hG _ _ n3.ext g) (n3.at hi) fI3 fC3 ?_ hc2 ry3 ru K3⟩
    exact⟨oI,(Zs _ _ (ZI hIC)).trans pI.1,hoc,hod⟩
  | _=>exact Zf K
end
def Xu (gt:IV->IV->Option Bool)(q:Str)(j:Nat)(js:List Nat)(aa:A1)(m:E1):E1:=λ σ h=>(aa σ h).bind λ xs h1=>match h1[j]? with
 | some (.tab q')=>if q'=q then(match xs with
  | [.ref i]=>X2 gt (λ v h'=>m (Za v::js.map λ j=>(σ[j]?).join) h') i h1
  | _=>.stuck) else .stuck
 | _=>.stuck
theorem Jzq {k:Nat}{q x:Str}{caps:List Str}{js:List Nat}{j:Nat}{a body:Expr}{aa:A1}{m:E1}{lt:IV->IV->Option Bool}{params:Zca}{scope:Zbm}{p lp pos kp:Pos}(hg:Gl X "min")(hm:X.mg "min"=Zc)(ha:PAi ce X [a] aa)(cm:∀A:ZN,A.units+64<Zep->CmpK ce X A .Lt lt)(hs:ZD [a] X.env=[(Zk,ZaY a X.env)])
  (hr:Room (k+2) X.A)(hcd:W.codeIn X.K X.env.code q=Zh)(hq:X.env.qual=q++".<locals>.")(B:Qw X.mg X.base)(hx:QE params=Za x)(S:LamSc X.N X.env.scope.names x caps js scope)
  (hb:∀f cd s' H',PEi ce (cxL X X.A.in1 (x::caps) q scope f cd s' H') body m) :
  PEi ce X (.Call (.Name "min" p) [a] [⟨Za "key",.Lambda params body scope lp,kp⟩] pos) (Xu lt q j js aa m):=λ pj s σ H ι σi h Q E N K=>by
 have hcl:ZcN scope X.env=pure (clOf X.env.cells scope.names []):=Jat λ y hm hk=>N.inv.ok.has y.1 (.inl (S.free y hm hk))
 refine Zaj (Qr N.inv hg hm rfl ?_)
 refine Zef ?_ (by rw[hs];rfl) (by rw[hs];rfl) rfl rfl
 refine(ha pos).run N K λ xs h1 us s1 H1 ι1 N1 n1 r1 K1=>?_
 cases ej:h1[j]? with
 | none=>rw[ej] at K1;exact Zf K1
 | some ob =>
  rw[ej] at K1
  cases ob with
  | tab q' =>
   dsimp only at K1
   split at K1
   ·rename_i eq
    subst eq
    refine ZaI (Zd (Jji N1 ej hcd hq (Jjh hx) hcl B λ f c pm ctv s2 H2 N2 n2 LC=>Zd (Zbo (Zw ?_))))
    refine ZbC ?_
    have K3:=Kont.more (pl:=[(f,lamO q' params body scope (clOf X.env.cells scope.names []) pm ctv c)]) (Kont.mono K1 n2)
    obtain⟨vs,rv,qs⟩:=r1.mono n2
    match xs,K3 with
    | [.ref i],K3 =>
     obtain⟨w,rfl,ad,rfl,hav⟩:=qs.one_of
     obtain⟨u,rfl,ru⟩:=QN rv
     cases ru
     refine Jtr (G:=λ H=>Q8 H q' (.ref c)) (mk:=λ v h'=>m (Za v::js.map λ j=>(σi[j]?).join) h') hr.hd (cm _ hr.in1.units) ?_ (λ H H' e g=>g.mono e.frzs) N2 LC hav ?_
     ·intro pl s4 H4 ι4 h4 v u Q4 N4 g4 ru4 K4
      have pf:=N4.inv.pin (f,lamO q' params body scope (clOf X.env.cells scope.names []) pm ctv c) (Zi _ (Zah _ (Zi _ (Zv.mpr rfl))))
      exact Jme (A:=X.A.in1) N.inv.ok.frames hr.in1 N4 pf.1 g4 hx S (hb f (.ref c)) ru4 K4
     ·exact K3
    | [],K3=>exact Zf K3
    | [.non],K3=>exact Zf K3
    | [.bl _],K3=>exact Zf K3
    | [.int _],K3=>exact Zf K3
    | [.str _],K3=>exact Zf K3
    | [.tup _],K3=>exact Zf K3
    | [.rol _],K3=>exact Zf K3
    | x::_::_,K3=>cases x<;>exact Zf K3
   ·exact Zf K1
  | _=>exact Zf K1
end
def ltL:List Int->List Int->Bool
 | a::as,b::bs=>if a=b then ltL as bs else decide (a<b)
 | _,_=>Zk
abbrev ivl (l:List (Int×Tok)):List Ze:=l.map λ p=>.int p.1 p.2
section
open PySem.AutoSeq1 (wpAny_loadPart')
open PySem.MeetsSeq PySem.MeetsSeq2 PySem.MeetsSeq3 PySem.SeqRoads2
theorem Jpe (l b:Zp)(as bs:List (Int×Tok))(hl:as.length=bs.length)(n n2:Nat)(dd dd2:Option Zp)(sl sl2:Array (Option Ze)) :
  Meets (Ze5.«tuple.__lt__» ⟨[.ref l,.ref b],[]⟩)
   (λ A R s=>s.heap.get? l=Za { cls:=.type "tuple",dict:=dd,data:=.seq (ivl as).toArray n,slots:=sl }/\s.heap.get? b=Za { cls:=.type "tuple",dict:=dd2,data:=.seq (ivl bs).toArray n2,slots:=sl2 } /\
    R (.ok (.ret (.bool (ltL (as.map (·.1)) (bs.map (·.1)))))) s) :=
 .of_wp λ prog w A R s h=>by
  obtain⟨hp,g,d,tk,os⟩:=s;obtain⟨ho,hb,h⟩:=h
  have f2:=AutoSeq1.sub_tuple_tuple
  wp_walk using Zcx ho,Zcx hb,wpAny_forIn_list _ (λ rest b s'=>b.1=Zc/\s'=⟨hp,g,d,tk,os⟩/\∃xs ys:List (Int×Tok),xs.length=ys.length/\rest=(ivl xs).zip (ivl ys) /\
   R (.ok (.ret (.bool (ltL (xs.map (·.1)) (ys.map (·.1)))))) ⟨hp,g,d,tk,os⟩) _
  case turn =>
   rintro⟨y,x⟩ rest b s' ⟨hb',rfl,xs,ys,ll,hz,hR⟩
   match xs,ys,ll,hz,hR with
   | p::xs,q::ys,ll,hz,hR =>
    injection hz with hyx hrest
    have hy:ZbZ p.1 p.2=y:=(congrArg Prod.fst hyx).symm
    have hx:ZbZ q.1 q.2=x:=(congrArg Prod.snd hyx).symm
    subst hy hx
    refine Zd (wpAny_eqBool_int ?_)
    by_cases e:p.1=q.1
    ·rw[beq_iff_eq.mpr e]
     wp_walk
     exact⟨rfl,rfl,xs,ys,by simpa using ll,hrest,by simpa [ltL,e] using hR⟩
    ·rw[beq_eq_false_iff_ne.mpr e]
     have cmp:=CmpOf.ints_lt (prog:=prog) (w:=w) (A:=A.in1) (P:=λ i v=>∃t,v=.int (if i=0 then p.1 else q.1) t) (λ i=>if i=0 then p.1 else q.1) (λ _ _ q=>q)
     have hc:∀(Q:QvT)(E:QvT)(s:Zm),Q (.bool (decide (p.1<q.1))) s->Zy (Z9 prog w) A.in1 (Zcg .Lt (.int p.1 p.2) (.int q.1 q.2)) Q E s:=λ Q E s h=>by
      have:=cmp 0 1 (.int p.1 p.2) (.int q.1 q.2) s Q E ⟨p.2,by simp⟩ ⟨q.2,by simp⟩
      simp only[if_true,show ¬(1:Nat)=0 by decide,if_false] at this
      exact this h
     show Zy _ A.in1 (rule _>>=λ _=>Zcg .Lt (.int p.1 p.2) (.int q.1 q.2)>>=λ v=>ret v>>=λ f=>pure (ForInStep.done (Za f,()))) _ _ _
     refine Zd (ZdQ (Zd (hc _ _ _ (Zd (Zw (Zw (Zw ⟨_,rfl,?_⟩)))))))
     simpa [ltL,e] using hR
   | [],ys,ll,hz,hR=>cases hz
   | _::_,[],ll,hz,hR=>cases hz
  case fin =>
   rintro⟨b1,b2⟩ s' ⟨hb',rfl,xs,ys,ll,hz,hR⟩
   simp only at hb'
   subst hb'
   match xs,ys,ll,hz,hR with
   | [],[],_,_,hR =>
    wp_walk
    exact⟨_,rfl,by simpa [Builtin.Tuple.tupleCompareSizes,hl,ltL] using hR⟩
   | _::_,_::_,_,hz,_=>cases hz
  case h =>
   exact⟨rfl,rfl,as,bs,hl,by simp,h⟩
end
theorem Jhc:∀{us:List Ze}{ns:List Int},ZbD us ns->∃l:List (Int×Tok),us=ivl l/\l.map (·.1)=ns
 | [],[],_=>⟨[],rfl,rfl⟩
 | [],_::_,h=>by cases h
 | _::_,[],h=>by cases h
 | u::us,n::ns,h=>by
  cases h
  rename_i t r
  obtain⟨l,e1,e2⟩:=Jhc r
  exact⟨(n,t)::l,by rw[e1];rfl,by rw[<- e2];rfl⟩
def ltT:IV->IV->Option Bool
 | .tup xs,.tup ys=>(match JH xs,JH ys with
  | some as,Za bs=>if as.length=bs.length then Za (ltL as bs) else Zc
  | _,_=>Zc)
 | _,_=>Zc
section
variable {ce:CeT}{X:Cx}
theorem Jz8 {A:ZN}(hu:A.units<Zep)(N:Now ce X pj ι σi h σ H s)(r:RU X.K ι H k u)(rb:RU X.K ι H kb ub)(e:ltT k kb=Za b)(q:Q (.bool b) s):Zy (Z9 X.prog X.w) A (Zcg .Lt u ub) Q E s:=by
 cases k with
 | tup xs =>
  cases kb with
  | tup ys =>
   obtain⟨x,rx,a,vs,rfl,sa,ra⟩:=r
   obtain⟨y,ry,c,ws,rfl,sc,rc⟩:=rb
   have ru:u=.ref a:=rx
   have rub:ub=.ref c:=ry
   subst ru rub
   unfold ltT at e
   dsimp only at e
   cases e1:JH xs with
   | none=>rw[e1] at e;cases e
   | some as =>
    cases e2:JH ys with
    | none=>rw[e1,e2] at e;cases e
    | some bs =>
     rw[e1,e2] at e
     dsimp only at e
     split at e
     ·rename_i hl
      cases e
      obtain⟨its,v1,⟨⟨cls,dd,data,sl⟩,ho,hc,n,hd⟩,_⟩:=N.inv.tuple sa
      obtain⟨jts,v2,⟨⟨cls2,dd2,data2,sl2⟩,ho2,hc2,n2,hd2⟩,_⟩:=N.inv.tuple sc
      simp only at hc hd hc2 hd2
      subst hc hd hc2 hd2
      obtain⟨l,rfl,rfl⟩:=Jhc (Vy e1 ra v1)
      obtain⟨m,rfl,rfl⟩:=Jhc (Vy e2 rc v2)
      exact richCompare_meets_room (op:=.Lt) ⟨_,ho,rfl⟩ ⟨_,ho2,rfl⟩ PySem.F.slot_tuple_lt PySem.F.entry_tuple_lt (PySem.F.args_tuple_lt_2 _ _) (Jpe a c l m (by simpa using hl) n n2 dd dd2 sl sl2)
       ⟨ho,ho2,show ZcI (ltL (l.map (·.1)) (m.map (·.1)))≠Value.notImplemented/\Q (.bool (ltL (l.map (·.1)) (m.map (·.1)))) s from⟨(λ x=>nomatch x),q⟩⟩ hu
     ·cases e
  | _=>cases e
 | _=>cases e
theorem Jwr {A:ZN}(hu:A.units<Zep):CmpK ce X A .Lt ltT:=λ _ _ _ _ _ _ s _ _ _ _ _ _ _ N r rb e q=>Jz8 hu N r rb e (q s.heap s.toks λ _ _ e=>e)
end
section
variable {pr:ZB}{wd:Zab}{B:ZN}{R:ZdK->Zm->Prop}{it:Zp}{fps wrs:List Zp}{n:Nat}{St:Nat->Zax->Prop}
end
section
variable {pr:ZB}{wd:Zab}{B:ZN}{E:QvT}{z:Zm}{l:Zp}{us:List Ze}{k:Nat}{f:Nat->List Int}{Q:QvT}
end
section
variable {ce:CeT}{X:Cx}
end
end L3
namespace L3
open PySem PySem.Spec PyProof.Rows L2 PySem.W
def Jx {α:Type}(lt:Nat->Nat->Bool):KasT α->α
 | .ret a=>a
 | .ask i j k=>Jx lt (k (lt i j))
def Asks {α:Type}(n:Nat)(P:α->Prop):KasT α->Prop
 | .ret a=>P a
 | .ask i j k=>i<n/\j<n/\∀b,Asks n P (k b)
theorem Asks.mono {α:Type}{n:Nat}{P P':α->Prop}(f:∀a,P a->P' a):∀{t:KasT α},Asks n P t->Asks n P' t
 | .ret _,h=>f _ h
 | .ask _ _ _,⟨h1,h2,h3⟩=>⟨h1,h2,λ b=>Asks.mono f (h3 b)⟩
theorem Asks.bind {α β:Type}{n:Nat}{P:α->Prop}{P':β->Prop}{f:α->KasT β}(hf:∀a,P a->Asks n P' (f a)):∀{t:KasT α},Asks n P t->Asks n P' (t.bind f)
 | .ret _,h=>hf _ h
 | .ask _ _ _,⟨h1,h2,h3⟩=>⟨h1,h2,λ b=>Asks.bind hf (h3 b)⟩
theorem Asks.run:∀{t:KasT α},Asks n P t->P (Jx lt t)
 | .ret _,h=>h
 | .ask i j k,⟨_,_,h⟩=>Asks.run (t:=k (lt i j)) (h (lt i j))
theorem Asks.wp {α:Type}{P:α->Prop}{Q:α->Zm->Prop}(hc:∀i j,i<n->j<n->∀C:Bool->Zm->Prop,C (lt i j) s->cmp i j C s) :
  ∀{t:KasT α},Asks n P t->Q (Jx lt t) s->t.kasWp cmp Q s
 | .ret _,_,q=>q
 | .ask i j k,⟨h1,h2,h3⟩,q=>hc i j h1 h2 _ (Asks.wp (t:=k (lt i j)) hc (h3 (lt i j)) q)
def Bd (n:Nat)(p:Array Nat):Prop:=0<n/\p.toList.Perm (ZT n)
theorem Bd.at (h:Bd n p)(i:Nat):p.getD i 0<n:=by
 by_cases hi:i<p.size
 ·rw[ZaX,Zco hi]
  have:p[i]∈p.toList:=by simp
  exact Za3.mp (h.2.mem_iff.mp this)
 ·rw[ZaX,Array.getElem?_eq_none (by omega)]
  exact h.1
theorem Jit {n:Nat}{p:Array Nat}(h:Bd n p):∀f m,Asks n (λ _=>True) (ZbU p f m)
 | 0,_=>trivial
 | f+1,m=>⟨h.at _,h.at _,λ b=>by
   dsimp only
   split
   ·trivial
   ·exact Jit h f _⟩
theorem Jfe {n:Nat}{p:Array Nat}(h:Bd n p)(k:Nat):∀f l r,Asks n (λ _=>True) (Zdg p k f l r)
 | 0,_,_=>trivial
 | f+1,l,r=>by
  unfold Zdg
  split
  ·trivial
  ·exact⟨h.at _,h.at _,λ b=>by
    dsimp only
    split
    ·exact Jfe h k f _ _
    ·exact Jfe h k f _ _⟩
theorem Bd.perm {p q:Array Nat}(h:Bd n p)(r:q.Perm p):Bd n q:=⟨h.1,(Array.perm_iff_toList_perm.mp r).trans h.2⟩
theorem Bd.rev (h:Bd n p)(i j:Nat):Bd n (ZbE p i j):=h.perm (mirror_perm _ _ _ _)
theorem Jd2:∀f (p:Array Nat) m q,Bd n p->Asks n (λ r=>Bd n r.1) (ZcT f p m q)
 | 0,_,_,_,h=>h
 | f+1,p,m,q,h=>⟨h.at _,h.at _,λ b=>by
   dsimp only
   split
   ·split
    ·exact Jd2 f _ _ _ (h.rev _ _)
    ·exact Jd2 f _ _ _ h
   ·exact⟨h.at _,h.at _,λ d=>by
     dsimp only
     split
     ·exact h
     ·exact Jd2 f _ _ _ h⟩⟩
theorem Jii {n:Nat}{p:Array Nat}(h:Bd n p)(m r:Nat):Asks n (λ r=>Bd n r.2) (Zem m r p):=by
 unfold Zem
 refine Asks.bind (P:=λ _=>True) (λ x _=>?_) (Jit (h.rev _ _) _ _)
 exact h.rev _ _
theorem Jd3 {n:Nat}{p:Array Nat}(h:Bd n p)(m r:Nat):Asks n (λ r=>Bd n r.2) (ZcD m r p) :=
 Asks.bind (λ x hx=>by
  split
  ·exact Jii (hx.rev _ _) _ _
  ·exact Jii hx _ _) (Jd2 _ _ _ _ h)
theorem Jof {n:Nat}{p:Array Nat}(h:Bd n p)(r:Nat):Asks n (λ r=>Bd n r.2) (ZdA r p) :=
 Asks.bind (λ m _=>by
  split
  ·exact h
  ·split
   ·exact⟨h.at _,h.at _,λ b=>by
     dsimp only
     split
     ·exact h
     ·exact Jd3 (h.rev _ _) _ _⟩
   ·exact Jd3 h _ _) (Jit h _ _)
theorem Jmy {n:Nat}:∀f (p:Array Nat) k,Bd n p->Asks n (Bd n) (kas_bin f p k)
 | 0,_,_,h=>h
 | f+1,p,k,h=>Asks.bind (λ l _=>Jmy f _ _ (h.perm (bubble_perm _ _ _))) (Jfe h k _ _ _)
theorem Jgo {n:Nat}(hn:0<n):Asks n (Bd n) (ZbY n) :=
 Asks.bind (λ r hr=>by
  split
  ·exact Jmy _ _ _ hr
  ·exact hr) (Jof ⟨hn,List.Perm.refl _⟩ n)
section
variable {prog:ZB}{w:Zab}{A:ZN}{E:QvT}{s:Zm}{b:Bool}{Q:Bool->Zm->Prop}
end
theorem Jui (vs:List Ze)(h:vs.length<2):(Jx lt (ZbY vs.length)).toList.map (λ i=>vs.getD i Zaa)=vs:=by
 match vs,h with
 | [],_=>simp[ZbY,ZdA,ZbU,KasT.bind,ZcD,ZcT,Zem,Jx,ZbE,mirror,Array.swapIfInBounds]
 | [v],_ =>
  have:=(Jgo (n:=1) (by decide)).run (lt:=lt)
  have e:(Jx lt (ZbY 1)).toList=[0]:=List.perm_singleton.mp this.2
  show(Jx lt (ZbY 1)).toList.map _=_
  rw[e]
  rfl
 | _::_::_,h=>simp at h;omega
section
variable {prog:ZB}{w:Zab}{A:ZN}{E:QvT}{s:Zm}
end
theorem Jlx (r:Vals vs us):∀p:List Nat,(∀i∈p,i<vs.length)->Vals (p.map λ i=>vs.getD i .non) (p.map λ i=>us.getD i Zaa)
 | [],_=>.nil
 | i::p,h=>by
  have hi:=h i (Z4 ..)
  obtain⟨u,eu,ru⟩:=r.get (Zb hi)
  refine .cons ?_ (Jlx r p λ j hj=>h j (Zn _ hj))
  show L2.RelV (vs.getD i .non) (us.getD i Zaa)
  rw[Zl,Zl,Zb hi,eu]
  exact ru
theorem Jnh {K:W.Frag}{ι:List Zp}{H:Hp}{xs:List IV}{vs:List V}(r:RVs K ι H xs vs):∀p:List Nat,(∀i∈p,i<xs.length)->RVs K ι H (p.map λ i=>xs.getD i .non) (p.map λ i=>vs.getD i .non)
 | [],_=>rfl
 | i::p,h=>by
  have hi:=h i (Z4 ..)
  obtain⟨v,ev,rv⟩:=r.get (Zb hi)
  refine⟨_,_,rfl,?_,Jnh r p λ j hj=>h j (Zn _ hj)⟩
  show RV K ι H (xs.getD i .non) (vs.getD i .non)
  rw[Zl,Zl,Zb hi,ev]
  exact rv
section
variable {ce:CeT}{X:Cx}
end
theorem Xz {α β:Type}{lt:Nat->Nat->Bool}{f:α->KasT β}:∀(t:KasT α),Jx lt (t.bind f)=Jx lt (f (Jx lt t))
 | .ret _=>rfl
 | .ask i j k=>Xz (k (lt i j))
section
variable {kf:Nat->Int}{p:Array Nat}{n i j:Nat}
abbrev ltF (kf:Nat->Int)(i j:Nat):Bool:=decide (kf i<kf j)
def kAt (kf:Nat->Int)(p:Array Nat)(i:Nat):Int:=kf (p.getD i 0)
def Ris (kf:Nat->Int)(p:Array Nat)(n:Nat):Prop:=∀i j,i<=j->j<n->kAt kf p i<=kAt kf p j
def Fal (kf:Nat->Int)(p:Array Nat)(n:Nat):Prop:=∀i j,i<=j->j<n->kAt kf p j<=kAt kf p i
theorem Yp (h:p[i]?=q[j]?):kAt kf p i=kAt kf q j:=by
 unfold kAt
 rw[ZaX,ZaX,h]
theorem Jmd (hj:j<=p.size)(m:Nat):kAt kf (ZbE p i j) m=if i<=m/\m<j then kAt kf p (i+j-1-m) else kAt kf p m:=by
 have e:=getElem?_mirror_all (i:=i) hj m
 split at e
 ·rename_i c;rw[if_pos c];exact Yp e
 ·rename_i c;rw[if_neg c];exact Yp e
theorem Jqu (hs:k<p.size)(hd:d<=k)(m:Nat):kAt kf (bubble p k d) m=if m=k-d then kAt kf p k else if k-d<m/\m<=k then kAt kf p (m-1) else kAt kf p m:=by
 have e:=getElem?_bubble hs d hd m
 split at e
 ·rename_i c;rw[if_pos c];exact Yp e
 ·rename_i c
  rw[if_neg c]
  split at e
  ·rename_i c;rw[if_pos c];exact Yp e
  ·rename_i c;rw[if_neg c];exact Yp e
theorem Jfl (hj:j<=p.size)(h:∀m,i<=m->m<j->kAt kf p m=kAt kf p (j-1))(m:Nat):kAt kf (ZbE p i j) m=kAt kf p m:=by
 rw[Jmd hj]
 split
 ·rw[h _ (by omega) (by omega),h m (by omega) (by omega)]
 ·rfl
theorem Ris.succ (h:Ris kf p n)(h1:1<=n)(q:kAt kf p (n-1)<=kAt kf p n):Ris kf p (n+1):=λ i j hij hj=>by
 by_cases e:j<n
 ·exact h i j hij e
 ·obtain rfl:j=n:=by omega
  by_cases e2:i=j
  ·subst e2;exact Zay _
  ·exact ZbV (h i (j-1) (by omega) (by omega)) q
theorem Fal.succ (h:Fal kf p n)(h1:1<=n)(q:kAt kf p n<=kAt kf p (n-1)):Fal kf p (n+1):=λ i j hij hj=>by
 by_cases e:j<n
 ·exact h i j hij e
 ·obtain rfl:j=n:=by omega
  by_cases e2:i=j
  ·subst e2;exact Zay _
  ·exact ZbV q (h i (j-1) (by omega) (by omega))
theorem Jmn:∀(f n:Nat),1<=n->Ris kf p n->n<=Jx (ltF kf) (ZbU p f n)/\Jx (ltF kf) (ZbU p f n)<=n+f/\Ris kf p (Jx (ltF kf) (ZbU p f n))/\(Jx (ltF kf) (ZbU p f n)=n+f∨kAt kf p (Jx (ltF kf) (ZbU p f n))<kAt kf p (Jx (ltF kf) (ZbU p f n)-1))
 | 0,n,_,h=>⟨Zq _,Zq _,h,.inl rfl⟩
 | f+1,n,h1,h=>by
  show n<=Jx (ltF kf) (if decide (kAt kf p n<kAt kf p (n-1))=Zh then .ret n else ZbU p f (n+1))/\_
  have e:Jx (ltF kf) (ZbU p (f+1) n)=Jx (ltF kf) (if decide (kAt kf p n<kAt kf p (n-1))=Zh then .ret n else ZbU p f (n+1)):=rfl
  rw[e]
  split
  ·rename_i c
   exact⟨Zq _,by show n<=_;omega,h,.inr (of_decide_eq_true c)⟩
  ·rename_i c
   have c:¬kAt kf p n<kAt kf p (n-1):=by simpa using c
   obtain⟨a,b,d,g⟩:=Jmn f (n+1) (by omega) (h.succ h1 (by omega))
   exact⟨by omega,by omega,d,g.imp (λ z=>by omega) id⟩
structure Dn (kf:Nat->Int)(p:Array Nat)(n q:Nat):Prop where
 f:Fal kf p n
 q1:q+1<=n
 e:∀m,n-(q+1)<=m->m<n->kAt kf p m=kAt kf p (n-1)
theorem Jge:∀(f:Nat)(p:Array Nat)(n q:Nat),p.size=z->n+f<=z->Dn kf p n q->∀r,Jx (ltF kf) (ZcT f p n q)=r->r.1.size=z/\n<=r.2.1/\r.2.1<=n+f/\Dn kf r.1 r.2.1 r.2.2
 | 0,p,n,q,hz,hf,d,r,e=>by subst e;exact⟨hz,Zq _,Zq _,d⟩
 | f+1,p,n,q,hz,hf,d,r,e=>by
  have dq:=d.q1
  have e':Jx (ltF kf) (if decide (kAt kf p n<kAt kf p (n-1))=Zh then(if q>0 then ZcT f (ZbE p (n-(q+1)) n) (n+1) 0 else ZcT f p (n+1) 0)
   else .ask (p.getD (n-1) 0) (p.getD n 0) λ d=>if d=Zh then .ret (p,n,q) else ZcT f p (n+1) (q+1))=r:=e
  split at e'
  ·rename_i c
   have c:kAt kf p n<kAt kf p (n-1):=by simpa using c
   split at e'
   ·have same:=λ m=>Jfl (kf:=kf) (i:=n-(q+1)) (j:=n) (p:=p) (by omega) d.e m
    have d2:Dn kf (ZbE p (n-(q+1)) n) (n+1) 0:=by
     refine⟨λ i j hij hj=>?_,by omega,λ m h1 h2=>by rw[show m=n+1-1 by omega]⟩
     rw[same,same]
     exact d.f.succ (by omega) (by omega) i j hij hj
    obtain⟨a1,a2,a3,a4⟩:=Jge f _ (n+1) 0 ((ZcU _ _ _ _).trans hz) (by omega) d2 r e'
    exact⟨a1,by omega,by omega,a4⟩
   ·have d2:Dn kf p (n+1) 0:=⟨d.f.succ (by omega) (by omega),by omega,λ m h1 h2=>by rw[show m=n+1-1 by omega]⟩
    obtain⟨a1,a2,a3,a4⟩:=Jge f _ (n+1) 0 hz (by omega) d2 r e'
    exact⟨a1,by omega,by omega,a4⟩
  ·rename_i c
   have c:¬kAt kf p n<kAt kf p (n-1):=by simpa using c
   have e'':Jx (ltF kf) (if decide (kAt kf p (n-1)<kAt kf p n)=Zh then .ret (p,n,q) else ZcT f p (n+1) (q+1))=r:=e'
   split at e''
   ·subst e''
    exact⟨hz,Zq _,by show n<=_;omega,d⟩
   ·rename_i c2
    have c2:¬kAt kf p (n-1)<kAt kf p n:=by simpa using c2
    have d2:Dn kf p (n+1) (q+1):=by
     refine⟨d.f.succ (by omega) (by omega),by omega,λ m h1 h2=>?_⟩
     by_cases em:m=n
     ·subst em;rfl
     ·rw[d.e m (by omega) (by omega)]
      show _=kAt kf p n
      omega
    obtain⟨a1,a2,a3,a4⟩:=Jge f _ (n+1) (q+1) hz (by omega) d2 r e''
    exact⟨a1,by omega,by omega,a4⟩
theorem Jle {m r:Nat}(h1:1<=m)(hm:m<=r)(hr:r<=p.size)(h:Fal kf p m):∀x,Jx (ltF kf) (Zem m r p)=x->x.2.size=p.size/\1<=x.1/\x.1<=r/\Ris kf x.2 x.1:=by
 intro x e
 have e:Jx (ltF kf) ((ZbU (ZbE p 0 m) (r-m) m).bind λ k=>.ret (k,ZbE p 0 m))=x:=e
 rw[Xz] at e
 have rs:Ris kf (ZbE p 0 m) m:=λ i j hij hj=>by
  rw[Jmd (by omega),Jmd (by omega),if_pos (by omega),if_pos (by omega)]
  exact h _ _ (by omega) (by omega)
 obtain⟨a,b,c,_⟩:=Jmn (r-m) m h1 rs
 subst e
 exact⟨ZcU _ _ _ _,by show 1<=Jx (ltF kf) (ZbU (ZbE p 0 m) (r-m) m);omega,by show Jx (ltF kf) (ZbU (ZbE p 0 m) (r-m) m)<=r;omega,c⟩
theorem Jfz {m r:Nat}(hm:m+1<=r)(hr:r<=p.size)(h:Fal kf p (m+1)):∀x,Jx (ltF kf) (ZcD m r p)=x->x.2.size=p.size/\1<=x.1/\x.1<=r/\Ris kf x.2 x.1:=by
 intro x e
 unfold ZcD at e
 rw[Xz] at e
 obtain⟨a1,a2,a3,a4⟩:=Jge (z:=p.size) (r-(m+1)) p (m+1) 0 rfl (by omega) ⟨h,by omega,λ k h1 h2=>by rw[show k=m+1-1 by omega]⟩ _ rfl
 generalize Jx (ltF kf) (ZcT (r-(m+1)) p (m+1) 0)=y at a1 a2 a3 a4 e
 have q1:=a4.q1
 split at e
 ·have same:=λ k=>Jfl (kf:=kf) (i:=y.2.1-(y.2.2+1)) (j:=y.2.1) (p:=y.1) (by omega) a4.e k
  have:=Jle (m:=y.2.1) (r:=r) (p:=ZbE y.1 (y.2.1-(y.2.2+1)) y.2.1) (by omega) (by omega) (by show r<=(mirror _ _ _ _).size;rw[ZcU];omega) (λ i j hij hj=>by rw[same,same];exact a4.f i j hij hj) x e
  rw[show(ZbE y.1 (y.2.1-(y.2.2+1)) y.2.1).size=y.1.size from ZcU _ _ _ _,a1] at this
  exact this
 ·have:=Jle (m:=y.2.1) (r:=r) (p:=y.1) (by omega) (by omega) (by omega) a4.f x e
  rw[a1] at this
  exact this
theorem Jrk {r:Nat}(h1:1<=r)(hr:r<=p.size):∀x,Jx (ltF kf) (ZdA r p)=x->x.2.size=p.size/\1<=x.1/\x.1<=r/\Ris kf x.2 x.1:=by
 intro x e
 unfold ZdA at e
 rw[Xz] at e
 obtain⟨a,b,c,d⟩:=Jmn (kf:=kf) (p:=p) (r-1) 1 (Zq _) (λ i j hij hj=>by
  obtain rfl:j=0:=by omega
  obtain rfl:i=0:=by omega
  exact Zay _)
 generalize Jx (ltF kf) (ZbU p (r-1) 1)=n at a b c d e
 split at e
 ·subst e;exact⟨rfl,a,by show n<=r;omega,c⟩
 ·rename_i hn
  have hn:n≠r:=by simpa using hn
  have dn:kAt kf p n<kAt kf p (n-1):=d.resolve_left (by omega)
  split at e
  ·have e':Jx (ltF kf) (if decide (kAt kf p 0<kAt kf p (n-1))=Zh then .ret (n,p) else ZcD n r (ZbE p 0 n))=x:=e
   split at e'
   ·subst e';exact⟨rfl,a,by show n<=r;omega,c⟩
   ·rename_i cc
    have cc:¬kAt kf p 0<kAt kf p (n-1):=by simpa using cc
    have al:∀m,0<=m->m<n->kAt kf p m=kAt kf p (n-1):=λ m _ hm=>by
     have:=c 0 m (by omega) hm
     have:=c m (n-1) (by omega) (by omega)
     omega
    have same:=λ k=>Jfl (kf:=kf) (i:=0) (j:=n) (p:=p) (by omega) al k
    have:=Jfz (m:=n) (r:=r) (p:=ZbE p 0 n) (by omega) (by show r<=(mirror _ _ _ _).size;rw[ZcU];omega) (λ i j hij hj=>by
     rw[same,same]
     by_cases ej:j<n
     ·rw[al i (by omega) (by omega),al j (by omega) ej];exact Zay _
     ·obtain rfl:j=n:=by omega
      by_cases ei:i=j
      ·subst ei;exact Zay _
      ·rw[al i (by omega) (by omega)];omega) x e'
    rw[show(ZbE p 0 n).size=p.size from ZcU _ _ _ _] at this
    exact this
  ·obtain rfl:n=1:=by omega
   refine Jfz (m:=1) (r:=r) (p:=p) (by omega) hr (λ i j hij hj=>?_) x e
   have dn:kAt kf p 1<kAt kf p 0:=dn
   match i,j with
   | 0,0=>exact Zay _
   | 0,1=>omega
   | 1,1=>exact Zay _
   | _,j+2=>omega
   | i+2,_=>omega
   | 1,0=>omega
theorem Jhl (h:Ris kf p k):∀(f l r:Nat),r<=k->l<=r->r-l<=f->(∀i,i<l->kAt kf p i<=kAt kf p k)->(∀i,r<=i->i<k->kAt kf p k<kAt kf p i)->∀x,Jx (ltF kf) (Zdg p k f l r)=x->x<=k/\(∀i,i<x->kAt kf p i<=kAt kf p k)/\∀i,x<=i->i<k->kAt kf p k<kAt kf p i
 | 0,l,r,hr,hl,hf,h1,h2,x,e=>by
  obtain rfl:l=r:=by omega
  subst e
  exact⟨hr,h1,h2⟩
 | f+1,l,r,hr,hl,hf,h1,h2,x,e=>by
  unfold Zdg at e
  split at e
  ·obtain rfl:l=r:=by omega
   subst e
   exact⟨hr,h1,h2⟩
  ·have e':Jx (ltF kf) (if decide (kAt kf p k<kAt kf p ((l+r)/2))=Zh then Zdg p k f l ((l+r)/2) else Zdg p k f ((l+r)/2+1) r)=x:=e
   split at e'
   ·rename_i c
    have c:kAt kf p k<kAt kf p ((l+r)/2):=by simpa using c
    exact Jhl h f _ _ (by omega) (by omega) (by omega) h1 (λ i a b=>Int.lt_of_lt_of_le c (h _ _ a b)) x e'
   ·rename_i c
    have c:¬kAt kf p k<kAt kf p ((l+r)/2):=by simpa using c
    exact Jhl h f _ _ hr (by omega) (by omega) (λ i a=>ZbV (h i _ (show i<=(l+r)/2 by omega) (by omega)) (by omega)) h2 x e'
theorem Jrj:∀(f:Nat)(p:Array Nat)(k:Nat),k+f<=p.size->Ris kf p k->∀x,Jx (ltF kf) (kas_bin f p k)=x->Ris kf x (k+f)
 | 0,p,k,_,h,x,e=>by subst e;exact h
 | f+1,p,k,hk,h,x,e=>by
  unfold kas_bin at e
  rw[Xz] at e
  obtain⟨a,b,c⟩:=Jhl h k 0 k (Zq _) (ZY _) (Zq _) (λ i q=>by omega) (λ i q r=>by omega) _ rfl
  generalize Jx (ltF kf) (Zdg p k k 0 k)=l at a b c e
  have:=Jrj f (bubble p k (k-l)) (k+1) (by rw[bubble_size];omega) (λ i j hij hj=>by
   have ed:k-(k-l)=l:=by omega
   rw[Jqu (by omega) (by omega),Jqu (by omega) (by omega),ed]
   split
   ·rename_i ei
    split
    ·exact Zay _
    ·split
     ·exact Int.le_of_lt (c _ (by omega) (by omega))
     ·omega
   ·split
    ·rename_i n1 y
     split
     ·omega
     ·split
      ·exact h _ _ (by omega) (by omega)
      ·omega
    ·split
     ·exact b i (by omega)
     ·split
      ·exact h _ _ (by omega) (by omega)
      ·exact h _ _ hij (by omega)) x e
  rwa [show k+(f+1)=k+1+f by omega]
theorem Jt2 {n:Nat}(hn:0<n):Ris kf (Jx (ltF kf) (ZbY n)) n:=by
 unfold ZbY
 rw[Xz]
 have hz:(ZaS (ZT n)).size=n:=by simp
 obtain⟨a,b,c,d⟩:=Jrk (kf:=kf) (p:=ZaS (ZT n)) (r:=n) (by omega) (by rw[hz];exact Zq _) _ rfl
 generalize Jx (ltF kf) (ZdA n (ZaS (ZT n)))=y at a b c d
 rw[hz] at a
 split
 ·have em:max y.1 1=y.1:=by omega
  rw[em]
  have:=Jrj (kf:=kf) (n-y.1) y.2 y.1 (by omega) d _ rfl
  rwa [show y.1+(n-y.1)=n by omega] at this
 ·obtain e:y.1=n:=by omega
  rw[<- e]
  exact d
end
def ordK (ks:List Int)(n:Nat):List Nat:=(Jx (ltF λ i=>ks.getD i 0) (ZbY n)).toList
theorem Jhj (ks:List Int)(hn:0<n):(ordK ks n).Perm (ZT n):=((Jgo hn).run (lt:=ltF λ i=>ks.getD i 0)).2
theorem Jgc (ks:List Int):ordK ks 0=[]:=by simp[ordK,ZbY,ZdA,ZbU,KasT.bind,ZcD,ZcT,Zem,Jx,ZbE,mirror,Array.swapIfInBounds]
theorem Yx (ks:List Int):∀i∈ordK ks n,i<n:=by
 intro i hi
 rcases Zdo n with e|e
 ·subst e
  rw[Jgc] at hi
  cases hi
 ·exact Za3.mp ((Jhj ks e).mem_iff.mp hi)
theorem Jnc (ks:List Int)(n:Nat):(ordK ks n).length=n:=by
 rcases Zdo n with e|e
 ·subst e
  rw[Jgc]
  rfl
 ·rw[(Jhj ks e).length_eq,Zb9]
theorem Jtx (ks:List Int)(n:Nat):(ordK ks n).Pairwise λ i j=>ks.getD i 0<=ks.getD j 0:=by
 rcases Zdo n with e|e
 ·subst e
  rw[Jgc]
  exact .nil
 ·have r:=Jt2 (kf:=λ i=>ks.getD i 0) e
  have l:=Jnc ks n
  rw[Zdu]
  intro i j hi hj hij
  have:=r i j (by omega) (by omega)
  have g:∀(m:Nat)(hm:m<(ordK ks n).length),(Jx (ltF λ i=>ks.getD i 0) (ZbY n)).getD m 0=(ordK ks n)[m]:=λ m hm=>by
   have hm':m<(Jx (ltF λ i=>ks.getD i 0) (ZbY n)).size:=by rw[<- Zbf];exact hm
   rw[ZaX,Zco hm']
   rfl
  unfold kAt at this
  rw[g i hi,g j hj] at this
  exact this
theorem Jqn {X:Cx}{pj:PnT}{σ:L2.St}{H:Hp}{s:Zm}{h':Zax}{t':Nat}{it:Zp}{o:HO}(I:Inv X pj σ H s)(k:∀b u,b≠it->s.heap.get? b=Za u->h'.get? b=Za u)(F:FpOk X pj H it)(new:JG X.prog X.w (upd H it o) h' it o) :
  Inv X pj σ (upd H it o) { s with heap:=h',toks:=t' }:=by
 obtain⟨hn,hL,_,h1,h2,h3⟩:=F
 have nit:∀b u,H b=Za u->b≠it:=λ b u e z=>by rw[z,hn] at e;cases e
 refine I.step (g':=s.gens) (d':=s.drawn) (ch:=[it]) (λ b hb=>?_) (λ b o _ _ hc e _=>k b o (λ z=>hc (by simp[z])) e) (λ b o _ _ hc e _=>⟨o.slots,k b o (λ z=>hc (by simp[z])) e⟩) (λ b o hc _ n=>by rw[Jq (λ z=>hc (by simp[z]))];exact n)
  (λ b o hc e=>⟨o,k b o (λ z=>hc (by simp[z])) e⟩) (λ b _ e=>by rw[Jq (nit b _ e)];exact e) (λ b _ _ e=>by rw[Jq (nit b _ e)];exact e) (λ b ps e=>⟨#[],by rw[Jq (nit b _ e),e];simp⟩) (λ m hm=>?_) (λ b u e=>?_) I.bare
 ·have e:b=it:=by simpa using hb
  subst e
  exact⟨h1,hL,h2,h3⟩
 ·obtain⟨o,es,ep,ho,r⟩:=hm
  exact⟨o,es,ep,k _ o (ZI hL) ho,r⟩
 ·by_cases hb:b=it
  ·subst hb
   rw[J7] at e
   cases e
   exact new
  ·rw[Jq hb] at e
   refine(I.hok b u e).stay (λ c v hc q=>k c v ?_ q) (λ c q=>by rw[Jq (nit c _ q)];exact q) λ c _ q=>by rw[Jq (nit c _ q)];exact q
   rcases hc with z|z
   ·rw[z];exact hb
   ·exact nit c _ z
def QD (mk:IV->IH->Res IV):List IV->List Int->IH->Res (List Int)
 | [],ks,h=>.ok ks h
 | y::r,ks,h=>(mk y h).nx.bind λ k h'=>match k with
  | .int n=>QD mk r (ks++[n]) h'
  | _=>.stuck
def rvB {α:Type}(b:Bool)(l:List α):List α:=if b then l.reverse else l
theorem QV {α:Type}{b:Bool}{l:List α}:(rvB b l).length=l.length:=by cases b;rfl;exact ZbF
def Y0 (b:Bool)(ys:List IV)(ks:List Int)(h:IH):Res IV:=.ok (.ref h.length) (h++[.lst (rvB b ((ordK ks ys.length).map λ i=>ys.getD i .non))])
def XH (b:Bool)(ys:List IV)(ks:List Int)(h:IH):Res IV:=Y0 b (rvB b ys) (rvB b ks) h
theorem RVs.rvB {K:W.Frag}{ι:List Zp}{H:Hp}{b:Bool}{xs:List IV}{vs:List V}(h:RVs K ι H xs vs):RVs K ι H (L3.rvB b xs) (L3.rvB b vs):=by cases b;exact h;exact h.rev
theorem Jnt {b:Bool}{ws:List V}{its:List Ze}(h:Vals ws its):Vals (rvB b ws) (rvB b its):=by
 cases b
 ·exact h
 ·exact h.reverse
section
variable {ce:CeT}{X:Cx}
section
variable {A:ZN}{Q:QvT}{E:QvT}{P:PySem.Fin->Zm->Prop}{pj:PnT}{σi:ISt}{σ:L2.St}{G:Hp->Prop}{fq D kS:Zp}{mk:IV->IH->Res IV}{ys:List IV}{ws:List V}{its:List Ze}{ks:List Int}{e e1:Nat}{H:Hp}{ι:List Zp}{h:IH}{s:Zm}
theorem Jnn {b:Bool}{kA:Array Ze}{st:SortSt}(N:Now ce X pj ι σi h σ H s)(fD:FpOk X pj H D)(fK:FpOk X pj H kS)(hDK:D≠kS)(gD:s.heap.get? D=Za (Zaf "list" #[] e1))(gK:s.heap.get? kS=Za (Zaf "list" kA e))(hz:kA.size<64)
  (rv:Vals ws its)(r3:RVs X.K ι H ys ws)(h64:ys.length<64)(hout:(arrOf st).map (·.2)=ZaS ((ordK ks ys.length).map λ i=>its.getD i Zaa))(hf:failedOf st=Zc)(hP:∀s',Q (.ref D) s'->P (.done (.ret .none)) s')(K:Kont ce X RU pj ι σi σ H (Y0 b ys ks h) Q E) :
  Zy (Z9 X.prog X.w) A (ksk_tail D b e1 (.ref kS) st) P E s:=by
 have lo:=Jnc ks ys.length
 have lt:=Yx ks (n:=ys.length)
 have l1:=r3.length
 have l2:=rv.length
 have s1:∀b u,b≠kS->s.heap.get? b=Za u->(s.heap.update kS (Zac λ _=>(#[]:Array Ze))).get? b=Za u:=λ b u nb q=>(Zs _ _ (ZI nb)).trans q
 have gD1:=s1 D _ hDK gD
 have N1:=N.turned (h':=s.heap.update kS (Zac λ _=>(#[]:Array Ze))) (t':=s.toks) fK s1
 have hsz:(ZaS (rvB b ((ordK ks ys.length).map λ i=>its.getD i Zaa))).size=ys.length:=by rw[Zu,QV,Zj,lo]
 have hrv:(if b=Zh then(ZaS ((ordK ks ys.length).map λ i=>its.getD i Zaa)).reverse else ZaS ((ordK ks ys.length).map λ i=>its.getD i Zaa))=ZaS (rvB b ((ordK ks ys.length).map λ i=>its.getD i Zaa)):=by cases b<;>simp[rvB]
 unfold ksk_tail
 try dsimp only
 rw[hout,hrv]
 refine Zd (Zdz gK rfl ?_ (by rw[Zbp];omega) (ZY _))
 refine Zd (Za8 ?_)
 refine Zd (seqEpoch_at gD1 rfl ?_)
 refine Zd (Zdz gD1 rfl ?_ (ZY _) (by rw[hsz,Zbp];omega))
 rw[hf]
 simp only[bne_self_eq_false,ZW,if_false]
 refine Zw (hP _ ?_)
 obtain⟨c2,hc2⟩:∃c2,((s.heap.update kS (Zac λ _=>(#[]:Array Ze))).update D (Zac λ _=>ZaS (rvB b ((ordK ks ys.length).map λ i=>its.getD i Zaa)))).get? D=Za (Zaf "list" (ZaS (rvB b ((ordK ks ys.length).map λ i=>its.getD i Zaa))) c2):=⟨_,Zb3 gD1 λ _=>ZaS (rvB b ((ordK ks ys.length).map λ i=>its.getD i Zaa))⟩
 have hl:(rvB b ((ordK ks ys.length).map λ i=>ws.getD i V.non)).length<=sizeLine:=by rw[QV,Zj,lo,Zbp];omega
 have I':=Jqn N1.inv (o:=.lst (rvB b ((ordK ks ys.length).map λ i=>ws.getD i V.non))) (h':=(s.heap.update kS (Zac λ _=>(#[]:Array Ze))).update D (Zac λ _=>ZaS (rvB b ((ordK ks ys.length).map λ i=>its.getD i Zaa)))) (t':=s.toks) (λ b u nb q=>(Zs _ _ (ZI nb)).trans q) fD
  ⟨hl,rvB b ((ordK ks ys.length).map λ i=>its.getD i Zaa),c2,Jnt (Jlx rv _ (λ i hi=>by have:=lt i hi;omega)),hc2⟩
 exact finA N1 K D fD.1 ⟨_,J7,RVs.new fD.1 (Jnh r3 _ lt).rvB⟩ _ _ I' rfl
theorem Jt3 {b:Bool}{us:List Ze}{ns:List Int}(h:ZbD us ns):ZbD (rvB b us) (rvB b ns):=by
 cases b
 ·exact h
 ·exact h.reverse
theorem Jyx {b:Bool}{kA:Array Ze}{its:List Ze}(h:kA.size=its.length):(if b=Zh then(kA.zip its.toArray).reverse else kA.zip its.toArray)=(rvB b kA.toList).toArray.zip (rvB b its).toArray:=by
 cases b with
 | false=>simp[rvB]
 | true =>
  apply Array.toList_inj.mp
  simp only[rvB,if_true,Array.toList_reverse,Array.toList_zip]
  exact List.reverse_zipWith (by simpa using h)
theorem Jyd {b:Bool}{kA:Array Ze}(N:Now ce X pj ι σi h σ H s)(fD:FpOk X pj H D)(fK:FpOk X pj H kS)(hDK:D≠kS)(gD:s.heap.get? D=Za (Zaf "list" #[] e1))(gK:s.heap.get? kS=Za (Zaf "list" kA e))(hk:ZbD kA.toList ks)(lk:ks.length=ys.length)
  (rv:Vals ws its)(r3:RVs X.K ι H ys ws)(h64:ys.length<64)(hP:∀s',Q (.ref D) s'->P (.done (.ret .none)) s')(K:Kont ce X RU pj ι σi σ H (XH b ys ks h) Q E) :
  Zy (Z9 X.prog X.w) A (ksk_end D b its.toArray e1 (.ref kS) kA) P E s:=by
 have l1:=r3.length
 have l2:=rv.length
 have l3:=hk.length
 have hz:kA.size=its.length:=by rw[<- Zbf];omega
 have step:∀t:Sem PySem.Fin,Zy (Z9 X.prog X.w) A t P E s->Zy (Z9 X.prog X.w) A (if b=Zh then(do let _<-rule "list.sort.reverse";t) else t) P E s:=by
  intro t ht
  split
  ·exact Zd (ZdQ ht)
  ·exact ht
 unfold ksk_end
 try dsimp only
 refine step _ ?_
 rw[Jyx hz]
 have rv':=Jnt (b:=b) rv
 have r3':=r3.rvB (b:=b)
 have hk':=Jt3 (b:=b) hk
 have h64':(rvB b ys).length<64:=by rw[QV];exact h64
 have K:Kont ce X RU pj ι σi σ H (Y0 b (rvB b ys) (rvB b ks) h) Q E:=K
 have ly:(rvB b ys).length=(rvB b its).length:=by rw[QV,QV];omega
 have lk':(rvB b ks).length=(rvB b its).length:=by rw[QV,QV];omega
 have l4:(rvB b kA.toList).length=(rvB b its).length:=by rw[QV,QV,Zbf,hz]
 have z2:its.toArray.size=(rvB b its).length:=by rw[QV,Zu]
 by_cases h2:its.toArray.size<2
 ·rw[if_pos h2,if_pos h2]
  refine Zd (Zw ?_)
  rw[StateT.run_pure]
  refine Zd (Zw ?_)
  try dsimp only
  refine Jnn N fD fK hDK gD gK (by omega) rv' r3' h64' ?_ rfl hP K
  generalize rvB b its=its at *
  generalize rvB b kA.toList=kl at *
  have e1:(arrOf (SortSt.mk' general' (kl.toArray.zip its.toArray) #[] 7 Zc)).map (·.2)=its.toArray:=by
   apply Array.toList_inj.mp
   show((kl.toArray.zip its.toArray).map (·.2)).toList=_
   rw[Array.toList_map,ksk_zip]
   exact List.map_snd_zip (by rw[List.toList_toArray];omega)
  rw[e1,ly]
  exact congrArg ZaS (Jui (lt:=ltF λ i=>(rvB b ks).getD i 0) its (by omega)).symm
 ·rw[if_neg h2,if_neg h2]
  rw[Zu] at h2
  rw[ksk_kind hk (by omega)]
  refine Zd (Zw ?_)
  have zk:kA.size<64:=by omega
  have n0:¬(rvB b its).length<2:=by rw[QV];exact h2
  generalize rvB b its=its at *
  generalize rvB b kA.toList=kl at *
  generalize rvB b ks=ks at *
  generalize rvB b ys=ys at *
  generalize rvB b ws=ws at *
  have sp:=Jgo (n:=its.length) (by omega)
  refine Zd (Zap (kat_run (ks:=kl) (vs:=its) (Q:=λ st' s'=>s'=s/\failedOf st'=Zc/\arrOf st'=(Jx (ltF λ i=>ks.getD i 0) (ZbY its.length)).map (kas_item (kl.toArray.zip its.toArray))) (G:=λ p s'=>s'=s/\p=Jx (ltF λ i=>ks.getD i 0) (ZbY its.length)) l4 (by omega) (by omega)
   (λ p st' s' a1 a2 a3 a4=>⟨a4.1,a3,a4.2▸a2⟩) (Asks.wp (n:=its.length) (lt:=ltF λ i=>ks.getD i 0) (λ i j hi hj C hC=>?_) sp ⟨rfl,rfl⟩)) ?_ λ _ _ e=>e)
  ·unfold kas_ask
   obtain⟨t1,e1⟩:=hk'.get i _ (Zb (show i<ks.length by omega))
   obtain⟨t2,e2⟩:=hk'.get j _ (Zb (show j<ks.length by omega))
   rw[Zl,Zl,e1,e2]
   refine kat_lt_int ?_
   have hC:C (decide (ks.getD i 0<ks.getD j 0)) s:=hC
   rw[Zl,Zl,Zb (show i<ks.length by omega),Zb (show j<ks.length by omega)] at hC
   exact hC
  ·rintro⟨⟨⟩,st'⟩ s' ⟨rfl,hfl,har⟩
   try dsimp only
   refine Jnn N fD fK hDK gD gK zk rv' r3' h64' ?_ hfl hP K
   rw[kat_snds (ks:=kl) (vs:=its) l4 har,ly]
   rfl
theorem Juk {b:Bool}(ko:Xo ce X A σi σ pj G (.ref fq) mk)(hG:∀H H',Ext H H'->G H->G H')(N:Now ce X pj ι σi h σ H s)(g:G H)(fD:FpOk X pj H D)(fK:FpOk X pj H kS)(hDK:D≠kS)(gD:s.heap.get? D=Za (Zaf "list" #[] e1))(gK:s.heap.get? kS=Za (Zaf "list" #[] 0))
  (rv:Vals ws its)(r3:RVs X.K ι H ys ws)(h64:ys.length<64)(hP:∀s',Q (.ref D) s'->P (.done (.ret .none)) s')(K:Kont ce X RU pj ι σi σ H ((QD mk ys [] h).bind (XH b ys)) Q E) :
  Zy (Z9 X.prog X.w) A (ksk_rest D (.ref fq) b its.toArray e1 (.ref kS)) P E s:=by
 have l1:=r3.length
 have l2:=rv.length
 unfold ksk_rest
 refine Zd (ZdQ ?_)
 rw[List.forIn_toArray]
 refine Zd (ksk_fold (λ j s'=>∃H' ι' h' ks kA e,Now ce X pj ι' σi h' σ H' s'/\G H'/\Nxt ι H ι' H'/\s'.heap.get? D=Za (Zaf "list" #[] e1)/\s'.heap.get? kS=Za (Zaf "list" kA e)/\ZbD kA.toList ks/\ks.length=j/\H' D=Zc/\H' kS=Zc/\Kont ce X RU pj ι' σi σ H' ((QD mk (ys.drop j) ks h').bind (XH b ys)) Q E) its 0 s
  ⟨H,ι,h,[],#[],0,N,g,.refl,gD,gK,.nil,rfl,fD.1,fK.1,K⟩ ?step ?done)
 case step =>
  rintro j x s' hx ⟨H',ι',h',ks,kA,e,N',g',n',gD',gK',hk,hlj,hD',hK',K'⟩
  simp only[Nat.zero_add] at hlj K' ⊢
  have fD':=FpOk.at fD hD'
  have fK':=FpOk.at fK hK'
  obtain⟨xv,ex,rx⟩:=Y9 rv hx
  obtain⟨yv,eyv,qy⟩:=(r3.mono n').get' ex
  have hj:j<ys.length:=(Zo.mp eyv).1
  have ed:ys.drop j=yv::ys.drop (j+1):=by
   rw[Za2 hj,(Zo.mp eyv).2]
  rw[ed] at K'
  have K':Kont ce X RU pj ι' σi σ H' (((mk yv h').nx.bind λ k h''=>match k with|.int n=>QD mk (ys.drop (j+1)) (ks++[n]) h''|_=>.stuck).bind (XH b ys)) Q E:=K'
  rw[Res.bind_bind] at K'
  have hz:kA.size=j:=by rw[<- Zbf,hk.length,hlj]
  have N2:=(N'.pinO gK' fK' λ v z=>by cases z).pinO gD' (FpOk.more (p:=(kS,Zaf "list" kA e)) fD' (ZI hDK)) λ v z=>by cases z
  rw[Zad] at N2
  refine Zd (wpAny_attempt (nof (ko _ _ _ _ _ yv x _ N2 g' ⟨xv,rx,qy⟩ (Yu K' λ k h3 u s3 H3 ι3 N3 n3 ru K3=>?_))))
  have pK:=N3.inv.pin (kS,Zaf "list" kA e) (Zi _ (Zi _ (by simp)))
  have pD:=N3.inv.pin (D,Zaf "list" #[] e1) (Zi _ (Zi _ (by simp)))
  have N4:=N3.pins
  cases k with
  | int n =>
   obtain⟨v,rv',ev⟩:=ru
   have ev:v=.int n:=ev
   subst ev
   obtain⟨t,rfl⟩:=rv'
   try dsimp only
   refine Zd (Zdz pK.1 rfl ?_ (by rw[Zbp];omega) (ZZ (Zc8 (Array.size_push ..)) (by rw[Zbp];omega)))
   obtain⟨c2,hc2⟩:∃c2,(s3.heap.update kS (Zac (·.push (.int n t)))).get? kS=Za (Zaf "list" (kA.push (.int n t)) c2):=⟨_,Zb3 pK.1 (·.push (.int n t))⟩
   have s1:∀b u,b≠kS->s3.heap.get? b=Za u->(s3.heap.update kS (Zac (·.push (.int n t)))).get? b=Za u:=λ b u nb q=>(Zs _ _ (ZI nb)).trans q
   have N5:=N4.turned (h':=s3.heap.update kS (Zac (·.push (.int n t)))) (t':=s3.toks) (FpOk.at fK pK.2.1) s1
   refine Zw ⟨rfl,H3,ι3,h3,ks++[n],kA.push (.int n t),c2,N5,hG _ _ n3.ext g',n'.trans n3,s1 D _ hDK pD.1,hc2,by rw[Array.toList_push];exact ksk_snoc hk,by simp[hlj],pD.2.1,pK.2.1,K3⟩
  | _=>exact Zf K3
 case done =>
  rintro s' ⟨H',ι',h',ks,kA,e,N',g',n',gD',gK',hk,hlj,hD',hK',K'⟩
  rw[Nat.zero_add] at hlj K'
  rw[List.drop_of_length_le (by omega)] at K'
  try dsimp only
  refine Zd (listItems_at gK' rfl ?_)
  exact Jyd N' (FpOk.at fD hD') (FpOk.at fK hK') hDK gD' gK' hk (by omega) rv (r3.mono n') h64 hP K'
theorem Jye {b:Bool}{kw:List (Str×Ze)}{B:ZN}{h2:Zax}{tk:Nat}(hkw:∀a,Ze5.«list.sort» ⟨[.ref a],kw⟩=ksk_tree a (.ref fq) b)(hak:∀a,ZdP "list.sort" ⟨[a],kw⟩)(ko:Xo ce X B.in1 σi σ pj G (.ref fq) mk)(hG:∀H H',Ext H H'->G H->G H')(N:Now ce X pj ι σi h σ H s)(g:G H)
  (keep:∀b o,s.heap.get? b=Za o->h2.get? b=Za o)(le0:s.heap.objs.size<=h2.objs.size)(rv2:Vals ws its)(r3:RVs X.K ι H ys ws)(h64:ys.length<64)(hP:∀D s',Q (.ref D) s'->P (.done (.ret (.ref D))) s')
  (K:Kont ce X RU pj ι σi σ H ((QD mk ys [] h).bind (XH b ys)) Q E):Zy (Z9 X.prog X.w) B (do let l<-newList its;let _<-Zb7 [l] (call (.builtin "list.sort") [l] kw);ret l) P E { s with heap:=h2,toks:=tk }:=by
 have l1:=r3.length
 have l2:=rv2.length
 refine Zd (Zcb ?_ (by rw[Zbp];omega))
 have hoL:(h2.push (Zaf "list" its.toArray 0)).get? h2.objs.size=Za (Zaf "list" its.toArray 0):=Zz _ rfl
 have keep3:∀b o,s.heap.get? b=Za o->(h2.push (Zaf "list" its.toArray 0)).get? b=Za o:=λ b o q=>Zg _ (keep b o q)
 have sz3:(h2.push (Zaf "list" its.toArray 0)).objs.size=h2.objs.size+1:=Zdn ..
 show Zy _ _ _ _ _ { s with heap:=h2.push (Zaf "list" its.toArray 0),toks:=tk }
 generalize h2.push (Zaf "list" its.toArray 0)=h3 at hoL keep3 sz3
 refine Zd (ZU (wpAny_call_entry_kw slot_list_sort ⟨_,hoL,rfl⟩ entry_list_sort ?body (hak _)))
 case body =>
  show Zy (Z9 X.prog X.w) B.in1 (Ze5.«list.sort» ⟨[.ref h2.objs.size],kw⟩) _ _ _
  rw[hkw]
  unfold ksk_tree
  refine Zd (listItems_at hoL rfl ?_)
  refine Zd (Zdz hoL rfl ?_ (by rw[Zu,Zbp];omega) (ZY _))
  obtain⟨ep,ho1⟩:∃ep,(h3.update h2.objs.size (Zac λ _=>(#[]:Array Ze))).get? h2.objs.size=Za (Zaf "list" #[] ep):=⟨_,Zb3 hoL λ _=>#[]⟩
  refine Zd (seqEpoch_at ho1 rfl ?_)
  refine Zd (wpAny_newTuple ?_ (by show its.length<=_;rw[Zbp];omega))
  refine Zd (Zcb ?_ (ZY _))
  refine ZU ?_
  have sz5:((h3.update h2.objs.size (Zac λ _=>(#[]:Array Ze))).push (Zaf "tuple" its.toArray 0)).objs.size=h2.objs.size+2:=by rw[Zdn,Heap.size_update,sz3]
  obtain⟨kS,hkS⟩:∃kS,kS=((h3.update h2.objs.size (Zac λ _=>(#[]:Array Ze))).push (Zaf "tuple" its.toArray 0)).objs.size:=⟨_,rfl⟩
  have gK:(((h3.update h2.objs.size (Zac λ _=>(#[]:Array Ze))).push (Zaf "tuple" its.toArray 0)).push (Zaf "list" #[] 0)).get? kS=Za (Zaf "list" #[] 0):=by rw[hkS];exact Zz _ rfl
  have gD:(((h3.update h2.objs.size (Zac λ _=>(#[]:Array Ze))).push (Zaf "tuple" its.toArray 0)).push (Zaf "list" #[] 0)).get? h2.objs.size=Za (Zaf "list" #[] ep):=Zg _ (Zg _ ho1)
  have old:∀b o,s.heap.get? b=Za o->(((h3.update h2.objs.size (Zac λ _=>(#[]:Array Ze))).push (Zaf "tuple" its.toArray 0)).push (Zaf "list" #[] 0)).get? b=Za o:=λ b o q=>Zg _ (Zg _ ((Zs _ _ (ZaQ (ZJ (Z0 q) le0))).trans (keep3 b o q)))
  rw[<- hkS]
  rw[sz5] at hkS
  have fD:FpOk X pj H h2.objs.size:=N.inv.fpOk le0 (N.inv.hok.fresh le0)
  have le:s.heap.objs.size<=kS:=by rw[hkS];exact ZZ le0 (Nat.le_add_right _ _)
  have fK:FpOk X pj H kS:=N.inv.fpOk le (N.inv.hok.fresh le)
  exact Juk ko hG (N.keptH (t':=tk) old) g fD fK (by rw[hkS];exact Z8 (Nat.lt_add_of_pos_right (by decide))) gD gK rv2 r3 h64 (λ s' q=>⟨_,rfl,Zw (hP _ _ q)⟩) K
end
end
def VJ (x:IV)(h:IH):Option (Nat×List IV):=match x with
 | .ref i=>(match h[i]? with
  | some (.lst xs)=>Za (i,xs)
  | _=>Zc)
 | _=>Zc
theorem Jio (e:VJ x h=Za (i,xs)):x=.ref i/\h[i]?=Za (.lst xs):=by
 unfold VJ at e
 split at e
 ·split at e
  ·rename_i q
   cases e
   exact⟨rfl,q⟩
  ·cases e
 ·cases e
def X9 (x:IV)(as:List IV)(h:IH):Res IV:=match VJ x h,as with
 | some (i,xs),[]=>(match xs[xs.length-1]? with
  | some y=>.ok y (h.set i (.lst xs.dropLast))
  | none=>.stuck)
 | _,_=>.stuck
def XA (x:IV)(as:List IV)(h:IH):Res IV:=match VJ x h,as with
 | some (i,xs),[.int k]=>(match JH xs with
  | some ns=>(match ns.findIdx? (· ==k) with
   | some j=>.ok .non (h.set i (.lst (xs.eraseIdx j)))
   | none=>.stuck)
  | none=>.stuck)
 | _,_=>.stuck
section
variable {ce:CeT}{X:Cx}
theorem J0a:MtI ce X "list" "list.pop" X9:=by
 intro pj s σ H ι σi h x xs v us Q E N rx rs K
 unfold X9 at K
 split at K
 ·rename_i i zs e
  obtain⟨rfl,hi⟩:=Jio e
  split at K
  ·rename_i y hy
   obtain⟨xv,rx,a,rfl,ha⟩:=rx
   obtain⟨vs,rv,qs⟩:=rs
   cases (show vs=[] from qs)
   obtain⟨ws,e1,r1⟩:=N.at hi ha
   obtain⟨z,hz,qz⟩:=r1.get hy
   exact Jr1 (J0e (X:=X.wish E)) N.inv rx rv ⟨a,ws,z,rfl,rfl,e1,by rw[r1.length];exact hz,finW (ys:=zs.dropLast) N K ha e1 (by rw[ZdX,ZdX,r1.length];exact r1.take _) qz⟩
  ·exact Zf K
 ·exact Zf K
theorem Jtn:MtI ce X "list" "list.remove" XA:=by
 intro pj s σ H ι σi h x xs v us Q E N rx rs K
 unfold XA at K
 split at K
 ·rename_i i zs k e
  obtain⟨rfl,hi⟩:=Jio e
  split at K
  ·rename_i ns hb
   split at K
   ·rename_i j hj
    obtain⟨xv,rx,a,rfl,ha⟩:=rx
    obtain⟨vs,rv,qs⟩:=rs
    obtain⟨w,rfl,qw⟩:=qs.one_of
    cases (show w=.int k from qw)
    obtain⟨u,rfl,t,rfl⟩:=QN rv
    cases rx
    obtain⟨ws,e1,r1⟩:=N.at hi ha
    obtain⟨z,its,n,r,hl,eo⟩:=N.inv.lstM e1
    have are:=Vy hb r1 r
    have ln:=Yo are
    obtain⟨hlt,hp,hno⟩:=Zc5.mp hj
    have at_:∀m (hm:m<its.toArray.size),∃t,its.toArray[m]=.int (ns.getD m 0) t:=λ m hm=>Zee are m _ (by simp at hm;simp[hm])
    refine Zdj F.slot_list_remove ⟨_,eo,rfl⟩ F.entry_list_remove (F.args_list_remove_2 _ _)
     (MeetsSeq.list_remove a its.toArray n (.int k t) (isK k) (λ y hy=>?_) j (by simp;omega) ?_ (λ m hm hmj=>?_) (by rw[Zu];omega)) ⟨eo,?_⟩
    ·obtain⟨m,hm,rfl⟩:=Array.mem_iff_getElem.mp hy
     obtain⟨t',e⟩:=at_ m hm
     rw[e]
     exact MeetsSeq.EqGives.int _ _ _ _
    ·obtain⟨t',e⟩:=at_ j (by simp;omega)
     rw[e]
     simpa [isK,Zl,hlt] using hp
    ·obtain⟨t',e⟩:=at_ m hm
     rw[e]
     have:=hno m hmj
     have hm2:m<ns.length:=by omega
     simpa [isK,Zl,hm2] using this
    ·exact finW (ys:=zs.eraseIdx j) (ws:=ws.eraseIdx j) N K ha e1 (r1.erase _) rfl _ _ (N.inv.lset (its':=its.eraseIdx j) e1 eo (by rw[ZcF]) (r.eraseIdx j) (by have:=Jk6 ws j;omega)) rfl
   ·exact Zf K
  ·exact Zf K
 ·exact Zf K
end
section
variable {pr:ZB}{wd:Zab}{A:ZN}{E:QvT}{s:Zm}
theorem Ji3 {Q:List Ze->Zm->Prop}{n:Nat}(hh:A.handled=Zc)(hr:IsRange s.heap r a b c t u v)(hsmall:Builtin.Range.small a b c=Zh) 
  (hn:Zd3 a b c=n)(hlen:n<=2^24)(hQ:∀h' tk acc,(∀b o,s.heap.get? b=Za o->h'.get? b=Za o)->s.heap.objs.size<=h'.objs.size->ItemsOf (λ i v=>∃t,v=.int (a+i*c) t) acc n->Q acc.toList { s with heap:=h',toks:=tk }) :
  Zy (Z9 pr wd) A (collect (.ref r)) Q E s:=by
 unfold collect
 refine Zd (wpAny_runValue (Zal PySem.F.entry_proto_collect ?_))
 rw[ZO PySem.F.plain_proto_collect _]
 show Zy _ A.in1 (newList []>>=λ l=>again (.builtin "list.__iadd__" ⟨[l,.ref r],[]⟩)) _ _ s
 refine Zd (Zcb ?_ (ZY _))
 refine Zw ⟨Zas ZdB _,Zal PySem.F.entry_list_iadd ?_⟩
 rw[ZO ZdB _]
 show Zy _ A.in1 (Builtin.List.listExtendWith (.ref s.heap.objs.size) (.ref r) (.ref s.heap.objs.size)) _ _ _
 refine wpAny_extend_range (R:=λ r s'=>match r with|.ok (.ret v)=>Zy (Z9 pr wd) A (match v with|.ref a=>(do match (<- load a).data with|.seq xs _=>pure xs.toList|_=>unsupported "internal:collect")|_=>unsupported "internal:collect") Q E s'|.ok _=>False|.error e=>E e s') (s:={ s with heap:=s.heap.push { cls:=.type "list",data:=.seq #[] } }) hh (Zg _ hr) hsmall hn hlen s.heap.objs.size _ 0 (Zz _ rfl) λ h' tk acc c' keep g its=>?_
 show Zy _ A (load s.heap.objs.size>>=_) _ _ _
 refine Zd (wpAny_load g ?_)
 exact Zw (hQ h' tk acc (λ b o e=>keep b o (Z8 (Z0 e)) (Zg _ e)) (Zcl (Z0 g)) its)
end
section
variable {ce:CeT}{X:Cx}
def Yi (q:Str)(j:Nat)(js:List Nat)(aa:A1)(m:E1):E1:=λ σ h=>(aa σ h).bind λ xs h1=>match xs,h1[j]? with
 | [.int n],Za (.tab q')=>if q'=q/\0<=n/\n<64 then(QD (λ v h'=>m (Za v::js.map λ j=>(σ[j]?).join) h') (rngI 0 n) [] h1).bind (XH Zh (rngI 0 n)) else .stuck
 | _,_=>.stuck
theorem Js8 {k:Nat}{q x:Str}{caps:List Str}{js:List Nat}{j:Nat}{a body:Expr}{aa:A1}{m:E1}{params:Zca}{scope:Zbm}{p p2 lp pos pos2 kp kp2 cp:Pos}{ck:Nat}(hh:X.A.handled=Zc)(hg:Gl X "sorted")(hm:X.mg "sorted"=Zc)(g2:Gl X "range")(m2:X.mg "range"=Zc)(ha:PAi ce X [a] aa)(hs:ZD [a] X.env=[(Zk,ZaY a X.env)])
  (hr:Room (k+3) X.A)(hcd:W.codeIn X.K X.env.code q=Zh)(hq:X.env.qual=q++".<locals>.")(B:Qw X.mg X.base)(hx:QE params=Za x)(S:LamSc X.N X.env.scope.names x caps js scope)
  (hb:∀f cd s' H',PEi ce (cxL X X.A.in1.in1 (x::caps) q scope f cd s' H') body m) :
  PEi ce X (.Call (.Name "sorted" p) [.Call (.Name "range" p2) [a] [] pos2] [⟨Za "key",.Lambda params body scope lp,kp⟩,⟨Za "reverse",.Constant (.bool Zh) ck cp,kp2⟩] pos) (Yi q j js aa m):=λ pj s σ H ι σi h Q E N K=>by
 have hcl:ZcN scope X.env=pure (clOf X.env.cells scope.names []):=Jat λ y hm hk=>N.inv.ok.has y.1 (.inl (S.free y hm hk))
 refine Zaj (Qr N.inv hg hm rfl ?_)
 refine Zef ?_ rfl rfl rfl rfl
 refine Zds ?_
 refine Zaj (Qr N.inv g2 m2 boot_range ?_)
 refine ZaB ?_ hs rfl
 refine(ha pos2).run N K λ xs h1 us s1 H1 ι1 N1 n1 r1 K1=>?_
 obtain⟨vs,rv,qs⟩:=r1
 split at K1
 ·rename_i n q' ej
  split at K1
  ·rename_i hc
   obtain⟨rfl,n0,n64⟩:=hc
   obtain⟨w,rfl,qw⟩:=qs.one_of
   cases (show w=.int n from qw)
   obtain⟨u,rfl,t,rfl⟩:=QN rv
   refine call_range_1 (Zdt ?_)
   have gr:(s1.heap.push { cls:=.type "range",data:=.fields #[.int 0 s1.toks,.int n t,.int 1 (s1.toks+1)] }).get? s1.heap.objs.size=Za { cls:=.type "range",data:=.fields #[.int 0 s1.toks,.int n t,.int 1 (s1.toks+1)] }:=Zz _ rfl
   have N1':=(N1.keptH (h':=s1.heap.push { cls:=.type "range",data:=.fields #[.int 0 s1.toks,.int n t,.int 1 (s1.toks+1)] }) (t':=s1.toks+1+1) λ b o e=>Zg _ e)
   have F1:FpOk X pj H1 s1.heap.objs.size:=N1.inv.fpOk (Zq _) (N1.inv.hok.fresh (Zq _))
   have N2:=N1'.pinO gr F1 λ v z=>by cases z
   have K2:=Kont.more (pl:=[(s1.heap.objs.size,({ cls:=.type "range",data:=.fields #[.int 0 s1.toks,.int n t,.int 1 (s1.toks+1)] }:Obj))]) K1
   refine ZaI (Zd (Jji N2 ej hcd hq (Jjh hx) hcl B λ f c pm ctv s3 H3 N3 n3 LC=>Zd (Zbo (Zw ?_))))
   refine ZaI (Zd (Zw (Zd (Zbo (Zw (ZbC ?_))))))
   have K3:=Kont.more (pl:=[(f,lamO q' params body scope (clOf X.env.cells scope.names []) pm ctv c)]) (Kont.mono K2 n3)
   have pr:=N3.inv.pin (s1.heap.objs.size,{ cls:=.type "range",data:=.fields #[.int 0 s1.toks,.int n t,.int 1 (s1.toks+1)] }) (Zi _ (Zah _ (Zi _ (Zv.mpr rfl))))
   refine call_function_entry_kw kind_sorted plain_sorted entry_sorted (ksk_s2 _ _ _) ?_
   unfold Ze5.«sorted»
   refine Zd (m:=checkCount "sorted" 1 1 _) (Zw ?_)
   refine Zd (Ji3 (n:=n.toNat) hh pr.1 (small_one (by decide) (by decide) (by omega) (by omega)) ?_ (by omega) λ h4 tk acc keep le its=>?_)
   ·rw[rangeSize_one]
    split<;>omega
   have are:ZbD acc.toList ((ZT n.toNat).map λ k=>((k:Nat):Int)):=by
    refine Jqm _ _ (by simp[its.1]) λ i v hv=>?_
    obtain⟨t,rfl⟩:=its.2 i v (by simpa using hv)
    have hi:i<n.toNat:=by
     have:=(Zo.mp hv).1
     simp only[Zbf,its.1] at this
     exact this
    exact⟨t,by simp[Zl,hi]⟩
   refine Jye (G:=λ H=>Q8 H q' (.ref c)) (mk:=λ v h'=>m (Za v::js.map λ j=>(σi[j]?).join) h') (ys:=rngI 0 n) (λ a=>ksk_t2 f a Zh) (λ a=>ksk_l2 a _ _) ?_ (λ H H' e g=>g.mono e.frzs) N3 LC keep le (XR are) (by rw[XB];exact Jjm _) (by rw[XB];simp;omega) (λ D s' q=>⟨_,rfl,q⟩) K3
   intro pl s4 H4 ι4 h4 v u Q4 N4 g4 ru4 K4
   have pf:=N4.inv.pin (f,lamO q' params body scope (clOf X.env.cells scope.names []) pm ctv c) (Zi _ (Zah _ (Zi _ (Zv.mpr rfl))))
   exact Jme (A:=X.A.in1.in1) N.inv.ok.frames hr.in1.in1 N4 pf.1 g4 hx S (hb f (.ref c)) ru4 K4
  ·exact Zf K1
 ·exact Zf K1
end
end L3
namespace L4
open PySem PySem.Spec PyProof.Rows L2 L3
noncomputable def stE:E1:=λ _ _=>.stuck
noncomputable def stT:T1:=λ _ _=>.stuck
noncomputable def stO:O1:=λ _ _=>.stuck
noncomputable def stI:I1:=λ _ _=>.stuck
noncomputable def stG:G1:=λ _ _ _=>.stuck
noncomputable def stS:S1:=λ _ _=>.stuck
structure Fn where
 np:Nat
 dvs:List IV
 run:List IV->IH->Res IV
structure Pg where
 fn:Str->Option Fn
 cls:Str->Option Fn
 meth:Str->Str->Option Fn
 con:Str->Option IV
 isa:Str->Option (Str->Bool)
 fld:Str->Bool
 free:Str->Bool
 tabs:Str->Option Nat
 rz:Str->Bool
 bas:Str->Bool
 xi:Str->Option (Str->Option Bool)
 wr:Str->Option (List IV->IH->Res IV)
 ne:Str->Bool
 xo:Str->Option Fn
 xf:Str->Str->Bool
 xb:Str->Bool
structure Sc where
 N:List Str
 names:List (Str×Zbj)
 own:Bool
 q:Str
noncomputable def ixOf (x:Str):List Str->Option Nat
 | []=>Zc
 | y::r=>if y==x then Za 0 else(ixOf x r).map (· + 1)
noncomputable def Sc.vis (S:Sc)(x:Str):Option Nat :=
 match S.names.lookup x with
 | some .local=>if x=="__debug__"||x=="__classdict__" then Zc else ixOf x S.N
 | some .cell=>if x=="__debug__"||x=="__classdict__" then Zc else ixOf x S.N
 | some .free=>if x=="__debug__"||x=="__classdict__" then Zc else ixOf x S.N
 | _=>Zc
noncomputable def Sc.gl (S:Sc)(x:Str):Bool:=S.names.lookup x==Za .globalImplicit&&!(x=="__debug__")&&!(x=="__name__")
noncomputable def Sc.sto (S:Sc)(x:Str):Option Nat :=
 match S.names.lookup x with
 | some .local=>ixOf x S.N
 | some .cell=>if S.own then ixOf x S.N else Zc
 | _=>Zc
def evC:Const->E1
 | .int i=>eC (.int i)
 | .bool b=>eC (.bl b)
 | .none=>eC .non
 | .str x=>eC (.str x)
 | _=>stE
def binI:ZcE->IV->IV->IH->Res IV
 | .Add=>Jl
 | .Sub=>Qe
 | .Mult=>Qs
 | .FloorDiv=>JO
 | .Mod=>Jv
 | .Pow=>JE
 | _=>λ _ _ _=>.stuck
def cmpI:CmpOp->IV->IV->IH->Res IV
 | .Lt=>cLt
 | .LtE=>cLe
 | .Gt=>cGt
 | .GtE=>cGe
 | .Eq=>cEq
 | .NotEq=>cNe
 | .Is=>cIs
 | .IsNot=>Jm1
 | .In=>cIn
 | .NotIn=>Jpy
def unI:UnaryOp->IV->IH->Res IV
 | .Not=>X6 tru
 | .USub=>Yw
 | _=>λ _ _=>.stuck
def Jwv:List E1->E1
 | []=>stE
 | [a]=>a
 | a::b::r=>eAnd a (Jwv (b::r)) tru
def eOrs:List E1->E1
 | []=>stE
 | [a]=>a
 | a::b::r=>eOr a (eOrs (b::r)) tru
def Jyh:List T1->T1
 | []=>stT
 | [a]=>a
 | a::b::r=>QK a (Jyh (b::r))
def tOrs:List T1->T1
 | []=>stT
 | [a]=>a
 | a::b::r=>tOrI a (tOrs (b::r))
def aAll:List E1->A1
 | []=>Jd
 | a::r=>Jb a (aAll r)
def Jy:Expr->Bool
 | .Starred .. =>Zk
 | _=>Zh
def X4:Expr->Bool
 | .Set .. =>Zk
 | _=>Zh
def Xb:Expr->Bool
 | .Slice .. =>Zk
 | _=>Zh
def V2:Expr->Bool
 | .ListComp .. =>Zk
 | .SetComp .. =>Zk
 | .DictComp .. =>Zk
 | _=>Zh
def V1:Expr->Bool
 | .Call (.Name ..) [] [] _=>Zk
 | _=>Zh
def isM1:Expr->Bool
 | .UnaryOp .USub (.Constant (.int 1) _ _) _=>Zh
 | _=>Zk
def Fn.fill (f:Fn)(n:Nat):Option (List IV):=if n<=f.np/\f.np<=n+f.dvs.length then Za (f.dvs.drop (f.dvs.length-(f.np-n))) else Zc
def VW (f:Fn)(n:Nat)(a:A1):E1:=match f.fill n with
 | some d=>Jn f.run d a
 | none=>stE
def Jm6 (c:Str)(f:Fn)(n:Nat)(a:A1):E1:=match f.fill (n+1) with
 | some d=>QR c f.run d a
 | none=>stE
def bltF (x:Str):List IV->IH->Res IV :=
 if x=="len" then on1 lenI else if x=="all" then on1 allI else if x=="sum" then on1 sumI else if x=="sorted" then on1 XI else if x=="min" then on1 Xa else if x=="max" then on1 VZ else λ _ _=>.stuck
def bltT (x:Str):List IV->IH->Res IV :=
 if x=="list" then on1 Vh else if x=="tuple" then on1 Xg else λ _ _=>.stuck
def Jqp (x:Str):Bool:=x=="len"||x=="all"||x=="sum"||x=="sorted"||x=="min"||x=="max"
def Jqq (x:Str):Bool:=x=="list"||x=="tuple"
def Jsk (P:Pg)(x:Str):Option (Ty->Option Bool) :=
 match P.isa x with
 | some g=>Za λ t=>match t with|.ins c=>Za (g c)|.exc _=>Zc|_=>Za Zk
 | none=>if P.free x then(if x=="int" then Za VA else if x=="bool" then Za V9 else if x=="str" then Za VC else if x=="list" then Za (if P.ne "Work" then VB else Ve) else if x=="tuple" then Za Vu else Zc) else Zc
def Jwx (o:Option (Ty->Option Bool))(e:E1):E1:=match o with
 | some ans=>eIsi ans e
 | none=>stE
def bmOf (T:String)(m:Str)(n:Nat):Option (IV->List IV->IH->Res IV) :=
 if T=="list"&&m=="append"&&n==1 then Za VT else if T=="list"&&m=="extend"&&n==1 then Za Xw else if T=="list"&&m=="pop"&&n==0 then Za X9 else if T=="list"&&m=="remove"&&n==1 then Za XA else if T=="str"&&m=="join"&&n==1 then Za Xy else if T=="dict"&&m=="setdefault"&&n==2 then Za VM else Zc
def JZ (P:Pg)(m:Str)(n:Nat):Str->Option ((List IV->IH->Res IV)×List IV):=λ c=>match P.meth c m with
 | some f=>(match f.fill (n+1) with
  | some d=>Za (f.run,d)
  | none=>Zc)
 | none=>Zc
def VH (v:IV)(h:IH):Bool:=match v with
 | .ref i=>(match h[i]? with
  | some (.ins ..)=>Zh
  | _=>Zk)
 | _=>Zk
def tyS (v:IV)(h:IH):String:=match v with
 | .str _=>"str"
 | .rol _=>"list"
 | .ref i=>(match h[i]? with
  | some (.lst _)=>"list"
  | some (.dct _)=>"dict"
  | _=>"")
 | _=>""
def Jo (P:Pg)(m:Str)(n:Nat)(o:E1)(a:A1):E1:=λ σ h=>match o σ h with
 | .ok v h1=>if VH v h1 then Jst m (JZ P m n) o a σ h else(match bmOf (tyS v h1) m n with
  | some g=>eBm (tyS v h1) g o a σ h
  | none=>.stuck)
 | _=>.stuck
def Jzg (n:Nat)(a:A1):I1:=match n with
 | 1=>iRg Q3 a
 | 2=>iRg VI a
 | _=>stI
def gAll:List G1->List IV->ISt->IH->SRes
 | []=>gN
 | g::r=>gC g (gAll r)
def V0 (sc:Zbm):List Str:=sc.names.filterMap λ x=>if x.2==.local&&!(x.1==(".0":Str)) then Za x.1 else Zc
def Q0 (sc:Zbm):List Str:=sc.names.filterMap λ x=>if x.2==.free then Za x.1 else Zc
def jsOf (S:Sc)(sc:Zbm):List Nat:=(Q0 sc).map λ x=>(ixOf x S.N).getD 0
def Sc.comp (S:Sc)(sc:Zbm):Sc where
 N:=V0 sc++Q0 sc
 names:=sc.names.map λ x=>if x.2==.free&&S.names.lookup x.1==Za .cell then(x.1,.cell) else x
 own:=Zk
 q:=""
def Sc.lam (S:Sc)(x:Str)(sc:Zbm):Sc where
 N:=x::Q0 sc
 names:=sc.names
 own:=Zk
 q:=""
def Qq (S:Sc)(x:Str)(sc:Zbm):Bool :=
 sc.kind==.function&&!sc.isCoroutine&&!sc.isGenerator&&sc.names.all (λ y=>!(y.2==.cell))&&sc.names.lookup x==Za .local&&sc.names.all (λ y=>!(y.2==.free)||S.names.lookup y.1==Za .cell)
  && (Q0 sc).all (λ y=>decide (S.N[(ixOf y S.N).getD 0]?=Za y)&&sc.names.lookup y==Za .free)&&decide (x::Q0 sc).Nodup
def Sc.fake (S:Sc):Zbm:={ kind:=.function,names:=S.names,isGenerator:=Zk,isCoroutine:=Zk }
def Jp7:Expr->Bool
 | .Name x _=>x=="last_come"||x=="tops"||x=="last"||x=="_law_last"||x=="_law_lows_here"
 | _=>Zk
def ixD (a:Expr):IV->IV->IH->Res IV:=if Jp7 a then QF else Jf
def txtB:Expr->Bool
 | .Name x _=>x=="_law_word_here"||x=="_law_name"
 | .Subscript .. =>Zh
 | _=>Zk
def slD (a:Expr):IV->Option Int->Option Int->IH->Res IV:=if txtB a then slT else slI
def cmpD (ne:Str->Bool)(o:CmpOp)(b:Expr):IV->IV->IH->Res IV:=match o with
 | .In=>if Jp7 b then cInD else cIn
 | o=>cmpI o
def gSbF (a:Expr)(o i:E1):G1:=if Jp7 a then gSbD o i else stG
def Jvu:Expr->Option Expr
 | .Call (.Name y _) [e] [] _=>if y=="set"&&Jy e then Za e else Zc
 | _=>Zc
def Jnf:Expr->Option Expr
 | .Call (.Name y _) [e] [] _=>if y=="range"&&Jy e then Za e else Zc
 | _=>Zc
def Ji1 (P:Pg)(S:Sc)(x:Str)(f:Expr->E1):List Expr->E1
 | [a,b]=>if x=="max" then eCB (on2 maxI) (Jb (f a) (Jb (f b) Jd)) else if x=="min" then eCB (on2 minI) (Jb (f a) (Jb (f b) Jd)) else(match b with
  | .Name y _=>if x=="isinstance"&&S.gl y then Jwx (Jsk P y) (f a) else stE
  | _=>stE)
 | [a]=>(match (if x=="len"&&S.gl "set"&&P.free "set" then Jvu a else Zc) with
  | some e=>Yf (Jb (f e) Jd)
  | none=>match (if x=="list"&&S.gl "range"&&P.free "range" then Jnf a else Zc) with
  | some _=>stE
  | none=>if Jqp x then eCB (bltF x) (Jb (f a) Jd) else if Jqq x then eCB (bltT x) (Jb (f a) Jd) else stE)
 | _=>stE
def Jzs:Expr->Bool
 | .Constant (.bool Zh) _ _=>Zh
 | _=>Zk
def Jrr (P:Pg)(S:Sc)(f:Sc->Expr->E1)(x:Str)(a:Expr)(k:Str)(ps:Zca)(body:Expr)(sc:Zbm)(k2:Str)(d:Expr):E1:=match Jnf a,QE ps,P.tabs S.q with
 | some e,Za y,Za j=>if x=="sorted"&&k=="key"&&k2=="reverse"&&Jzs d&&S.gl x&&P.free x&&S.gl "range"&&P.free "range"&&S.own&&Qq S y sc then Yi S.q j (jsOf S sc) (Jb (f S e) Jd) (f (S.lam y sc) body) else stE
 | _,_,_=>stE
def minK (P:Pg)(S:Sc)(f:Sc->Expr->E1)(x:Str)(a:Expr)(k:Str):Expr->E1
 | .Lambda ps body sc _=>(match QE ps,P.tabs S.q with
  | some y,Za j=>if x=="min"&&k=="key"&&S.gl x&&P.free x&&Jy a&&S.own&&Qq S y sc then Xu ltT S.q j (jsOf S sc) (Jb (f S a) Jd) (f (S.lam y sc) body) else stE
  | _,_=>stE)
 | _=>stE
def Jqy (P:Pg)(S:Sc)(f:Sc->Expr->E1)(x:Str)(args:List Expr)(kws:List Zej):E1:=match args,kws with
 | [a],[⟨Za k,d,_⟩]=>if x=="max"&&k=="default"&&S.gl x&&P.free x&&Jy a then Yg (Jb (f S a) Jd) (f S d) else minK P S f x a k d
 | [a],[⟨Za k,.Lambda ps body sc _,_⟩,⟨Za k2,d,_⟩]=>if x=="sorted" then Jrr P S f x a k ps body sc k2 d else(match QE ps,P.tabs S.q with
  | some y,Za j=>if x=="max"&&k=="key"&&k2=="default"&&S.gl x&&P.free x&&Jy a&&S.own&&Qq S y sc then Yh gtZ S.q j (jsOf S sc) (Jb (f S a) Jd) (f (S.lam y sc) body) (f S d) else stE
  | _,_=>stE)
 | _,_=>stE
def Jmz (P:Pg)(S:Sc)(m:Str):Expr->Option Fn
 | .Name x _=>if m=="__init__"&&S.gl x&&P.bas x then P.cls x else Zc
 | _=>Zc
def Jww (P:Pg)(m:Str)(n:Nat)(b:Option Fn)(o:E1)(a:A1):E1:=match b with
 | some f=>if n=0 then stE else VW f n a
 | none=>Jo P m n o a
def Jp1 (ifs:List Expr)(f:Expr->T1)(m:T1->E1):E1:=match ifs with
 | []=>m JC
 | [c]=>m (f c)
 | _=>stE
section
mutual
def ev (P:Pg):Nat->Sc->Expr->E1
 | 0,_,_=>stE
 | n+1,S,e=>match e with
  | .Constant c _ _=>evC c
  | .Name x _=>(match S.vis x with
   | some i=>Ja i
   | none=>if S.gl x then(match P.con x with
    | some v=>eC v
    | none=>stE) else stE)
  | .BinOp a op b _=>Jc (binI op) (ev P n S a) (ev P n S b)
  | .UnaryOp op a _=>eUn (unI op) (ev P n S a)
  | .BoolOp .And vs _=>Jwv (vs.map (ev P n S))
  | .BoolOp .Or vs _=>eOrs (vs.map (ev P n S))
  | .IfExp t a b _=>eIf (evT P n S t) (ev P n S a) (ev P n S b)
  | .Compare a [o] [b] _=>if Zcr o b then stE else Jc (cmpD P.ne o b) (ev P n S a) (ev P n S b)
  | .Compare a [o,o'] [b,c] _=>if Zd7 [o,o'] [b,c] then stE else JT (cmpI o) (cmpI o') (ev P n S a) (ev P n S b) (ev P n S c)
  | .Tuple es _ _=>if es.all Jy then JA (aAll (es.map (ev P n S))) else stE
  | .Dict [] [] _=>Xt
  | .List es _=>if es.all Jy then J0 (aAll (es.map (ev P n S))) else stE
  | .Subscript a (.Slice lo hi Zc _) _=>eSl (slD a) (ev P n S a) (evO P n S lo) (evO P n S hi)
  | .Subscript a i _=>if Xb i then Jc (ixD a) (ev P n S a) (ev P n S i) else stE
  | .Attribute o f _=>if V1 o&&P.fld f then Jp f (ev P n S o) else stE
  | .Call (.Name x _) args [] _=>if S.gl x&&args.all Jy then Jqe P n S x args else stE
  | .Call (.Name x _) args (kw::kws) _=>Jqy P S (λ S e=>ev P n S e) x args (kw::kws)
  | .Call (.Attribute o m ap) args [] p=>if args.all Jy&&V1 o&&(ap.endLine==p.line)&&decide (args.length<30) then Jww P m args.length (Jmz P S m o) (ev P n S o) (aAll (args.map (ev P n S))) else stE
  | .ListComp elt [⟨tg,iter,ifs,as⟩] sc _ =>
   if as=0/\X4 iter=Zh/\QA S.N (V0 sc) (Q0 sc) (jsOf S sc) S.fake sc=Zh then
    Jp1 ifs (evT P n (S.comp sc)) λ mt=>Jz (evI P n S tg iter) (V0 sc).length (jsOf S sc) (tgt P n (S.comp sc) tg) mt (ev P n (S.comp sc) elt)
   else stE
  | _=>stE
def evT (P:Pg):Nat->Sc->Expr->T1
 | 0,_,_=>stT
 | n+1,S,e=>match e with
  | .UnaryOp .Not a _=>JD (evT P n S a)
  | .BoolOp .And vs _=>Jyh (vs.map (evT P n S))
  | .BoolOp .Or vs _=>tOrs (vs.map (evT P n S))
  | .IfExp .. =>stT
  | .Compare a [o] [b] _=>if Zcr o b then stT else Jh asB (Jc (cmpD P.ne o b) (ev P n S a) (ev P n S b))
  | .Compare a [o,o'] [b,c] _=>if Zd7 [o,o'] [b,c] then stT else Jh asB (JT (cmpI o) (cmpI o') (ev P n S a) (ev P n S b) (ev P n S c))
  | .Compare .. =>stT
  | e=>Jh tru (ev P n S e)
def evO (P:Pg):Nat->Sc->Option Expr->O1
 | 0,_,_=>stO
 | _+1,_,Zc=>QU
 | n+1,S,Za e=>Qg (ev P n S e)
def Jqe (P:Pg):Nat->Sc->Str->List Expr->E1
 | 0,_,_,_=>stE
 | n+1,S,x,args=>match P.fn x with
  | some f=>VW f args.length (aAll (args.map (ev P n S)))
  | none=>match P.cls x with
   | some f=>Jm6 x f args.length (aAll (args.map (ev P n S)))
   | none=>if P.free x then Ji1 P S x (ev P n S) args else stE
def evI (P:Pg):Nat->Sc->Expr->Expr->I1
 | 0,_,_,_=>stI
 | n+1,S,tg,e=>match e with
  | .Call (.Name x _) args [] _ =>
   if S.gl x&&P.free x&&args.all Jy&&(x=="range") then Jzg args.length (aAll (args.map (ev P n S)))
   else if S.gl x&&P.free x&&args.all Jy&&(x=="enumerate") then(match tg,args with
    | .Tuple ..,[a]=>iRg QS (Jb (ev P n S a) Jd)
    | _,_=>stI)
   else Jw (ev P n S e)
  | e=>Jw (ev P n S e)
def tgt (P:Pg):Nat->Sc->Expr->G1
 | 0,_,_=>stG
 | n+1,S,e=>match e with
  | .Name x _=>(match S.sto x with
   | some i=>gNm i
   | none=>stG)
  | .Tuple es _ _=>if es.all Jy then gTp es.length (gAll (es.map (tgt P n S))) else stG
  | .Subscript o i _=>if Xb i then gSbF o (ev P n S o) (ev P n S i) else stG
  | _=>stG
end
end
def V4 (t:T1)(b:S1):Nat->S1
 | 0,_,_=>.stuck
 | n+1,σ,h=>match t σ h with
  | .ok c h1=>if c then(match b σ h1 with
   | .next σ2 h2=>V4 t b n σ2 h2
   | .cont σ2 h2=>V4 t b n σ2 h2
   | .brk σ2 h2=>.next σ2 h2
   | .ret v h2=>.ret v h2
   | _=>.stuck) else .next σ h1
  | _=>.stuck
@[irreducible] def XN:Nat:=1000000
def Xd (t:T1)(b:S1):S1:=V4 t b XN
def ipI:ZcE->IV->IV->IH->Res IV
 | .Add,.int i,.int j,h=>.ok (.int (i+j)) h
 | _,_,_,_=>.stuck
def sAug (op:ZcE)(i:Nat)(e:E1):S1:=λ σ h=>rS σ (Ja i σ h) λ x h1=>rS σ (e σ h1) λ y h2=>rS σ (ipI op x y h2) λ z h3=>.next (σ.set i (Za z)) h3
def XD (op:ZcE)(f:Str)(o e:E1):S1:=λ σ h=>rS σ (o σ h) λ ov h1=>match ov with
 | .ref i=>(match h1[i]? with
  | some (.ins _ fs)=>(match fs.lookup f with
   | some x=>rS σ (e σ h1) λ y h2=>rS σ (ipI op x y h2) λ z h3=>(match h3[i]? with
    | some (.ins c gs)=>if gs.length<1000 then .next σ (h3.set i (.ins c (putI f z gs))) else .stuck
    | _=>.stuck)
   | none=>.stuck)
  | _=>.stuck)
 | _=>.stuck
def ixL:IV->IV->IH->Res IV
 | .ref i,.int k,h=>match h[i]? with
  | some (.lst xs)=>(match atI xs k with
   | some v=>if 0<=k then .ok v h else .stuck
   | none=>.stuck)
  | _=>.stuck
 | _,_,_=>.stuck
def XE (op:ZcE)(o k e:E1):S1:=λ σ h=>rS σ (o σ h) λ ov h1=>rS σ (k σ h1) λ kv h2=>rS σ (ixL ov kv h2) λ x h3=>rS σ (e σ h3) λ y h4=>rS σ (ipI op x y h4) λ z h5=>setI ov kv z σ h5
def sAll:List S1->S1
 | []=>Js
 | [a]=>a
 | a::b::r=>Jg a (sAll (b::r))
def Jxp:Expr->Bool
 | .Tuple .. =>Zk
 | _=>Zh
def Jte:Expr->Bool
 | .Tuple .. =>Zh
 | _=>Zk
def isLC:Expr->Bool
 | .ListComp .. =>Zh
 | _=>Zk
def Jtd:Expr->Bool
 | .Subscript .. =>Zh
 | _=>Zk
abbrev Xi:=Str->Option (Str->Option Bool)
section
end
section
end
def Jx2 (P:Pg)(f:Str)(o e:E1):S1:=if P.fld f then JM f o e else stS
section
def ex (P:Pg):Nat->Sc->Zdh->S1
 | 0,_,_=>stS
 | n+1,S,st=>match st with
  | .Pass _=>Jx3
  | .Break _=>Jvs
  | .Continue _=>J01
  | .Expr e _=>if V2 e then JL (ev P n S e) else stS
  | .Return Zc _=>Jx4
  | .Return (Za e) _=>Jm (ev P n S e)
  | .If c a b _=>sIf (evT P n S c) (sAll (a.map (ex P n S))) (sAll (b.map (ex P n S)))
  | .While c a [] _=>Xd (evT P n S c) (sAll (a.map (ex P n S)))
  | .For tg it a [] _=>if X4 it&&S.own then sFor (evI P n S tg it) (tgt P n S tg) (sAll (a.map (ex P n S))) else stS
  | .Assign [.Name x _] e _=>if V2 e||isLC e then(match S.sto x with
   | some i=>Ji i (ev P n S e)
   | none=>stS) else stS
  | .Assign [.Attribute o f _] e _=>if V2 e||isLC e then Jx2 P f (ev P n S o) (ev P n S e) else stS
  | .Assign [tg] e _=>if V2 e&&((Jte tg&&Jxp e)||Jtd tg) then sAsg (ev P n S e) (tgt P n S tg) else stS
  | .AugAssign (.Name x _) op e _=>(match S.sto x with
   | some i=>sAug op i (ev P n S e)
   | none=>stS)
  | .AugAssign (.Attribute o f _) op e _=>if P.fld f then XD op f (ev P n S o) (ev P n S e) else stS
  | .AugAssign (.Subscript o k _) op e _=>if Xb k then XE op (ev P n S o) (ev P n S k) (ev P n S e) else stS
  | _=>stS
end
structure FnD (ce:CeT)(prog:ZB)(w:Zab)(K:W.Frag)(mg:Str->Option Ze)(base:Zax)(k:Nat)(f:Fn)(fa:Zp)(fd:ZaH)(ps:List Str):Prop where
 len:ps.length=f.np
 ok:FnOk prog w K mg base (CXI prog w) k fa fd ps (spI ce K ps f.run)
 dv:∀j,j<=f.dvs.length->∃ds,Qi K fd ps ds/\ds.length=f.dvs.length-j/\∃vs,Vals vs ds/\∀ι H,RVs K ι H (f.dvs.drop j) vs
structure PgOk (ce:CeT)(k:Nat)(P:Pg)(prog:ZB)(w:Zab)(K:W.Frag)(mg:Str->Option Ze)(base:Zax):Prop where
 fn:∀x f,P.fn x=Za f->∃fa fd ps,mg x=Za (.ref fa)/\W.keepIn K (.ref fa)=Zh/\FnD ce prog w K mg base k f fa fd ps
 cls:∀x f,P.cls x=Za f->∃C fa fd ps,mg x=Za (.ref C)/\ce x=Za C/\Mk K C fa/\FnD ce prog w K mg base k f fa fd ps
 meth:∀c m f,P.meth c m=Za f->∃C fa fd ps,ce c=Za C/\Cls K C/\Meth K C m fa/\FnD ce prog w K mg base k f fa fd ps
 con:∀x v,P.con x=Za v->∃u y,mg x=Za u/\RelV y u/\∀ι H,RV K ι H v y
 isa:∀D g,P.isa D=Za g->∃c,mg D=Za c/\IsOk ce K c λ t=>match t with|.ins c=>Za (g c)|.exc _=>Zc|_=>Za Zk
 fld:∀f,P.fld f=Zh->XX ce K f
 free:∀x,P.free x=Zh->mg x=Zc
 blt:∀q j,P.tabs q=Za j->Qw mg base
 bas:∀x,P.bas x=Zh->∃C,mg x=Za (.ref C)/\BasK K C
 ne:∀c,P.ne c=Zh->∃C,ce c=Za C/\neIn K C=Zh/\ClsI K C/\W.kitOne K (.ref C) (.type "list")=Za Zk
structure Good (ce:CeT)(k:Nat)(P:Pg)(S:Sc)(X:Cx):Prop where
 n:X.N=S.N
 sc:X.env.scope.names=S.names
 nd:S.N.Nodup
 fk:X.env.scope.kind=.function
 calm:X.calm=Zh
 room:Room (k+1) X.A
 st:S.own=Zh->∀x,X.fn x=Zh
 pg:PgOk ce k P X.prog X.w X.K X.mg X.base
 code:S.own=Zh->W.codeIn X.K X.env.code S.q=Zh/\X.env.qual=S.q++".<locals>."
 room3:S.own=Zh->Room (k+3) X.A
 top:S.own=Zh->X.stack=X.env::X.outer/\X.env.frame=Za X.env.locals
section
variable {ce:CeT}{k:Nat}{P:Pg}{S:Sc}{X:Cx}{α β:Type}{R:REL α β}
theorem Jj {t:Sem β}:PX ce X R t (λ _ _=>.stuck):=λ _ _ _ _ _ _ _ _ _ _ K=>(show False from K).elim
theorem J22 (hh:∀σi h,∃m',m σi h=m' σi h/\PX ce X R t m'):PX ce X R t m:=by
 intro pj s σ H ι σi h Q E N K
 obtain⟨m',e,p⟩:=hh σi h
 rw[e] at K
 exact p pj s σ H ι σi h Q E N K
theorem Jgd:PIi ce X tg e stI:=λ _ _ _ _ _ _ _ _ _ _ K=>(show False from K).elim
theorem X7:PGi ce X e stG:=λ _ _ _ _ _ _ _ _ _ _ _ _ _ K=>(show False from K).elim
theorem JU:PSi ce X t stS:=λ _ _ _ _ _ _ _ _ _ _ K=>(show False from K).elim
theorem Jf9:∀{l:List Str}{i:Nat},ixOf x l=Za i->l[i]?=Za x
 | [],_,h=>by cases h
 | y::r,i,h=>by
  unfold ixOf at h
  split at h
  ·rename_i e
   cases h
   simp[beq_iff_eq.mp e]
  ·obtain⟨j,hj,rfl⟩:=ZF.mp h
   simpa using Jf9 hj
theorem Good.kind (G:Good ce k P S X)(x:Str):X.env.kindOf x=S.names.lookup x:=by
 show X.env.scope.names.lookup x=_
 rw[G.sc]
theorem Good.vis (G:Good ce k P S X)(h:S.vis x=Za i):X.N[i]?=Za x/\Vis X.env.scope x/\(x==("__debug__":Str))=Zk/\(x==("__classdict__":Str))=Zk:=by
 unfold Sc.vis at h
 have fin:∀{o:Zbj},(o=.local∨o=.cell∨o=.free)->S.names.lookup x=Za o->(if (x==("__debug__":Str)||x==("__classdict__":Str))=Zh then Zc else ixOf x S.N)=Za i ->
   X.N[i]?=Za x/\Vis X.env.scope x/\(x==("__debug__":Str))=Zk/\(x==("__classdict__":Str))=Zk:=λ ho e h=>by
  split at h
  ·cases h
  ·rename_i hd
   have hd':=Zcd.mpr hd
   rw[ZcS] at hd'
   refine⟨by rw[G.n];exact Jf9 h,?_,hd'.1,hd'.2⟩
   unfold Vis
   rw[G.sc,e]
   rcases ho with rfl|rfl|rfl
   ·exact .inl rfl
   ·exact .inr (.inl rfl)
   ·exact .inr (.inr rfl)
 cases e:S.names.lookup x with
 | none=>rw[e] at h;cases h
 | some o =>
  rw[e] at h
  cases o with
  | «local» =>exact fin (.inl rfl) e h
  | cell=>exact fin (.inr (.inl rfl)) e h
  | free=>exact fin (.inr (.inr rfl)) e h
  | _=>cases h
theorem Good.gl (G:Good ce k P S X)(h:S.gl x=Zh):Gl X x/\(x==("__debug__":Str))=Zk/\x≠"__name__":=by
 unfold Sc.gl at h
 simp only[Zr,beq_iff_eq,ZaO] at h
 refine⟨?_,h.1.2,λ e=>?_⟩
 ·show X.env.kindOf x=_
  rw[G.kind]
  exact h.1.1
 ·have:=h.2
  rw[e] at this
  exact absurd this (by decide)
theorem Good.sto (G:Good ce k P S X)(h:S.sto x=Za i):X.N[i]?=Za x/\Loc X.env.scope x/\(X.fn x=Zh∨X.env.scope.names.lookup x=Za .local):=by
 unfold Sc.sto at h
 unfold L2.Loc
 rw[G.sc]
 cases e:S.names.lookup x with
 | none=>rw[e] at h;cases h
 | some o =>
  rw[e] at h
  cases o with
  | «local» =>exact⟨by rw[G.n];exact Jf9 h,.inl rfl,.inr rfl⟩
  | cell =>
   dsimp only at h
   split at h
   ·rename_i ho
    exact⟨by rw[G.n];exact Jf9 h,.inr rfl,.inl (G.st ho x)⟩
   ·cases h
  | _=>cases h
theorem Good.nodup (G:Good ce k P S X):X.N.Nodup:=by rw[G.n];exact G.nd
theorem J1 (h:Jy a=Zh):ZD (a::es) env=(Zk,ZaY a env)::ZD es env:=by
 cases a<;>first|rfl|cases h
theorem Xf {pos:Pos}{env:Env}:∀{es:List Expr},es.all Jy=Zh->(Zbq pos (ZD es env)).any (·.1)=Zk
 | [],_=>rfl
 | a::es,h=>by
  simp only[Zar,Zr] at h
  rw[J1 h.1]
  show(Zk||(Zbq pos (ZD es env)).any (·.1))=Zk
  rw[Xf h.2]<;>rfl
theorem Jhp:∀{es:List Expr},es.all Jy=Zh->(Zbq pos (ZD es env)).all (λ x=>!x.1)=Zh
 | [],_=>rfl
 | a::es,h=>by
  simp only[Zar,Zr] at h
  rw[J1 h.1]
  show(Zh&&(Zbq pos (ZD es env)).all (λ x=>!x.1))=Zh
  rw[Jhp h.2]<;>rfl
theorem Jw2 {es:List Expr}(ha:es.all Jy=Zh)(hn:es.length<30):((Zbq pos (ZD es env)).all (λ x=>!x.1)&&(Zd9 pos (Zc3 [] env)).all (λ x=>x.1.isSome)
   && decide (es.length+([]:List Zej).length+(if ([]:List Zej).isEmpty then 0 else 1)<30))=Zh:=by
 show((Zbq pos (ZD es env)).all (λ x=>!x.1)&&Zh&&decide (es.length+0+0<30))=Zh
 rw[Jhp ha]
 simpa using hn
theorem XZ:∀(l:List E1),ALen l.length (aAll l)
 | []=>Jsj
 | _::r=>Jpk (XZ r)
theorem Vt:∀{es:List Expr},es.all Jy=Zh->(∀e,PEi ce X e (f e))->PAi ce X es (aAll (es.map f))
 | [],_,_=>Vc
 | a::es,h,hf=>by
  simp only[Zar,Zr] at h
  exact QO (hf a) (Vt h.2 hf) (J1 h.1)
theorem Jve (hf:∀e,PEi ce X e (f e)):∀(vs:List Expr),PEi ce X (.BoolOp .And vs pos) (Jwv (vs.map f))
 | []=>Jj
 | [a]=>Jzr (hf a)
 | a::b::r=>J18 Y2 (hf a) (Jve hf (b::r))
theorem Jy7 (hf:∀e,PEi ce X e (f e)):∀(vs:List Expr),PEi ce X (.BoolOp .Or vs pos) (eOrs (vs.map f))
 | []=>Jj
 | [a]=>Jzr (hf a)
 | a::b::r=>i_or Y2 (hf a) (Jy7 hf (b::r))
theorem Jvy (hf:∀e,PTi ce X e (f e)):∀(vs:List Expr),PWi ce X (.BoolOp .And vs pos) (Jyh (vs.map f))
 | []=>λ _=>Jj
 | [a]=>Jyj (hf a)
 | a::b::r=>J1h (hf a) (Jvy hf (b::r))
theorem J1e (hf:∀e,PTi ce X e (f e)):∀(vs:List Expr),PWi ce X (.BoolOp .Or vs pos) (tOrs (vs.map f))
 | []=>λ _=>Jj
 | [a]=>J1i (hf a)
 | a::b::r=>J3j (hf a) (J1e hf (b::r))
theorem Jvf:∀{es:List Expr},es.all Jy=Zh->(∀e,PGi ce X e (f e))->PGsi ce X es (gAll (es.map f))
 | [],_,_=>Jzf
 | a::es,h,hf=>by
  simp only[Zar,Zr] at h
  refine Jw1 (hf a) (Jvf h.2 hf) ?_
  cases a<;>first|rfl|exact absurd h.1 Zt
theorem Ju8:∀{es:List Expr},es.all Jy=Zh->(ZaJ es env).length=es.length
 | [],_=>rfl
 | a::es,h=>by
  simp only[Zar,Zr] at h
  have:ZaJ (a::es) env=(Zk,ZdN a env)::ZaJ es env:=by cases a<;>first|rfl|exact absurd h.1 Zt
  rw[this,ZC,ZC,Ju8 h.2]
theorem Jpq {env:Env}:∀{es:List Expr},es.all Jy=Zh->(ZaJ es env).findIdx? (·.1)=Zc
 | [],_=>rfl
 | a::es,h=>by
  simp only[Zar,Zr] at h
  have:ZaJ (a::es) env=(Zk,ZdN a env)::ZaJ es env:=by cases a<;>first|rfl|exact absurd h.1 Zt
  rw[this,Zdp,Jpq h.2]
  rfl
theorem J2o (op:ZcE):OpI ce X (ZaU op) (binI op):=by
 cases op with
 | Add=>exact J2n
 | Sub=>exact J2t
 | Mult=>exact J0g
 | FloorDiv=>exact J0f
 | Mod=>exact J2q
 | Pow=>exact J2s
 | _=>exact λ _ _ _ _ _ _ _ _ _ _ _ _ _ _ _ _ K=>(show False from K).elim
theorem Yv (hu:X.A.units+64<Zep)(op:CmpOp):OpI ce X (Zav op) (cmpI op):=by
 cases op with
 | Lt=>exact o_lt
 | LtE=>exact o_le
 | Gt=>exact o_gt
 | GtE=>exact o_ge
 | Eq=>exact o_eq hu
 | NotEq=>exact o_ne hu
 | Is=>exact o_is
 | IsNot=>exact Jxq
 | In=>exact o_in hu
 | NotIn=>exact Jxr hu
theorem Jvq (hu:X.A.units+64<Zep)(hn:∀c,ne c=Zh->∃C,ce c=Za C/\neIn X.K C=Zh)(op:CmpOp)(b:Expr):OpI ce X (Zav op) (cmpD ne op b):=by
 unfold cmpD
 split
 ·split
  ·exact J2p
  ·exact o_in hu
 ·exact Yv hu op
theorem J3q (a:Expr):SlI ce X (slD a):=by
 unfold slD
 split
 ·exact J3r
 ·exact x_sl
theorem J3p (a:Expr):IxI ce X (ixD a):=by
 unfold ixD
 split
 ·exact J3o
 ·exact x_ix
theorem o_un (op:UnaryOp):UnI ce X (unaryOp op) (unI op):=by
 cases op with
 | Not=>exact Jyk Y2
 | USub=>exact J3k
 | _=>exact λ _ _ _ _ _ _ _ _ _ _ _ _ _ K=>(show False from K).elim
theorem Jc4 (h:V1 o=Zh):ZcP o m env w=w:=by
 cases o with
 | Call f as ks p =>
  cases f with
  | Name x q =>
   cases as with
   | nil =>
    cases ks with
    | nil=>cases h
    | cons _ _=>rfl
   | cons _ _=>rfl
  | _=>rfl
 | _=>rfl
theorem Yl (h:X4 e=Zh)(x:Ze):Zcc e env x=pure x:=by
 cases e<;>first|rfl|cases h
theorem Jda (h:V2 e=Zh):Zdf e t l env=pure Zk:=by
 cases e<;>first|rfl|cases h
theorem Jth (h:Xb i=Zh):Jpi i:=λ _ _=>by
 cases i<;>first|rfl|cases h
theorem Jhh {o:Expr}{m:Str}{ap pos:Pos}{es:List Expr}{env:Env}(hb:V1 o=Zh)(hs:es.all Jy=Zh)(hl:(ap.endLine==pos.line)=Zh)(hn:es.length<30) :
  ZaY (.Call (.Attribute o m ap) es [] pos) env=(do
   let ov<-ZaY o env
   Ze3 ap.atName
   let (f,first)<-Zb7 [ov] (Zd4 ov m (do return(<- importBound o env).getD Zh))
   callWith pos f first (Zbq pos (ZD es env)) (Zd9 pos (Zc3 [] env))):=by
 have hform:methodCallForm (es.length+([]:List Zej).length) (Zbq pos (ZD es env)) (Zd9 pos (Zc3 [] env))=Zh:=by
  show((Zbq pos (ZD es env)).all (λ x=>!x.1)&&Zh&&decide (es.length+0+0<30))=Zh
  rw[Jhp hs]
  simpa using hn
 have hpos:methodCallPos Zh o env ap pos=pure pos:=by unfold methodCallPos;simp[hl]
 rw[arm_eval_Call,Jc4 hb]
 unfold methodCall
 rw[hform,hpos]
 rfl
end
section
variable {ce:CeT}{k:Nat}{P:Pg}{S:Sc}{X:Cx}
theorem Jko (G:Good ce k P S X)(N0 l c:List Str)(js:List Nat)(sc:Zbm):QA N0 l c js X.env.scope sc=QA N0 l c js S.fake sc:=by
 unfold QA
 rw[G.fk,G.sc]
 rfl
theorem Good.comp (G:Good ce k P S X){sc:Zbm}(h:QA S.N (V0 sc) (Q0 sc) (jsOf S sc) S.fake sc=Zh)(C:Zp)(s:Zm)(H:Hp)(fp:List Zp):Good ce k P (S.comp sc) (cxC X (V0 sc++Q0 sc) sc C s H fp):=by
 simp only[QA,Zr,decide_eq_true_eq] at h
 obtain⟨⟨⟨⟨⟨⟨⟨⟨⟨kF,kF0⟩,kNC⟩,kL⟩,kFr⟩,kFx⟩,kJ⟩,kLen⟩,kNd⟩,kLo⟩:=h
 refine⟨rfl,?_,kNd,kF,G.calm,G.room,λ z=>absurd z Zt,G.pg,λ z=>absurd z Zt,λ z=>absurd z Zt,λ z=>absurd z Zt⟩
 show(relabel sc X.env).names=_
 unfold relabel Sc.comp
 dsimp only
 refine List.map_congr_left λ x _=>?_
 obtain⟨n,kd⟩:=x
 dsimp only
 rw[G.fk,G.kind]
 simp
end
structure Snd (ce:CeT)(k:Nat)(P:Pg)(n:Nat):Prop where
 e:∀S X e,Good ce k P S X->PEi ce X e (ev P n S e)
 t:∀S X e,Good ce k P S X->PTi ce X e (evT P n S e)
 o:∀S X e,Good ce k P S X->PPi ce X e (evO P n S e)
 c:∀S X x args p pos,Good ce k P S X->S.gl x=Zh->args.all Jy=Zh->PEi ce X (.Call (.Name x p) args [] pos) (Jqe P n S x args)
 i:∀S X tg e,Good ce k P S X->PIi ce X tg e (evI P n S tg e)
 g:∀S X e,Good ce k P S X->PGi ce X e (tgt P n S e)
section
variable {ce:CeT}{k:Nat}{P:Pg}{n:Nat}{S:Sc}{X:Cx}
theorem Jug:Snd ce k P 0:=⟨λ _ _ _ _=>Jj,λ _ _ _ _=>Jj,λ _ _ _ _=>Jj,λ _ _ _ _ _ _ _ _ _=>Jj,λ _ _ _ _ _=>Jgd,λ _ _ _ _=>X7⟩
theorem Ji8 {prog:ZB}{w:Zab}{K:W.Frag}{mg:Str->Option Ze}{base:Zax}{f:Fn}{fa:Zp}{fd:ZaH}{ps:List Str}{m:Nat}{d:List IV}(D:FnD ce prog w K mg base k f fa fd ps)(h:f.fill m=Za d) :
  ∃ds,Qi K fd ps ds/\m+ds.length=ps.length/\∃vs,Vals vs ds/\∀ι H,RVs K ι H d vs:=by
 unfold Fn.fill at h
 split at h
 ·rename_i hz
  cases h
  obtain⟨ds,hb,hl,q⟩:=D.dv (f.dvs.length-(f.np-m)) (by omega)
  exact⟨ds,hb,by rw[hl,D.len];omega,q⟩
 ·cases h
theorem Jub (G:Good ce k P S X)(hx:P.fn x=Za f)(hg:S.gl x=Zh){args:List Expr}(ha:args.all Jy=Zh)(hf:∀e,PEi ce X e (g e)){p pos:Pos} :
  PEi ce X (.Call (.Name x p) args [] pos) (VW f args.length (aAll (args.map g))):=by
 obtain⟨fa,fd,ps,hm,hk,D⟩:=G.pg.fn x f hx
 obtain⟨gl,hdb,_⟩:=G.gl hg
 unfold VW
 cases hd:f.fill args.length with
 | none=>exact Jj
 | some d =>
  obtain⟨ds,hb,hl,q⟩:=Ji8 D hd
  have hr:Room k X.A:=G.room.mono (ZaL k)
  cases args with
  | nil=>exact Jw7 D.ok hr gl hm hk hb q (by simpa using hl) hdb
  | cons a es =>
   have ha':=ha
   simp only[Zar,Zr] at ha'
   refine Jzi D.ok hr gl hm hk hb q (Vt ha hf) (λ σ h xs h' e=>?_) hdb (J1 ha'.1) (Xf ha'.2)
   have:=XZ _ σ h xs h' e
   rw[Zj] at this
   rw[this]
   exact hl
theorem Juc (G:Good ce k P S X)(hx:P.cls x=Za f)(hg:S.gl x=Zh){args:List Expr}(ha:args.all Jy=Zh)(hf:∀e,PEi ce X e (g e)){p pos:Pos} :
  PEi ce X (.Call (.Name x p) args [] pos) (Jm6 x f args.length (aAll (args.map g))):=by
 obtain⟨C,fa,fd,ps,hm,hC,M,D⟩:=G.pg.cls x f hx
 obtain⟨gl,hdb,_⟩:=G.gl hg
 unfold Jm6
 cases hd:f.fill (args.length+1) with
 | none=>exact Jj
 | some d =>
  obtain⟨ds,hb,hl,q⟩:=Ji8 D hd
  cases args with
  | nil=>exact Jxa M D.ok hC G.room gl hm hb q (by simp at hl;omega) hdb
  | cons a es =>
   have ha':=ha
   simp only[Zar,Zr] at ha'
   refine Jzm M D.ok hC G.room gl hm hb q (Vt ha hf) (λ σ h xs h' e=>?_) hdb (J1 ha'.1) (Xf ha'.2)
   have:=XZ _ σ h xs h' e
   rw[Zj] at this
   omega
theorem Jp9 (G:Good ce k P S X)(m:Str)(n:Nat):Jph ce X m n (JZ P m n):=by
 intro c f dvs h
 unfold JZ at h
 cases hm:P.meth c m with
 | none=>rw[hm] at h;cases h
 | some fn =>
  rw[hm] at h
  dsimp only at h
  cases hd:fn.fill (n+1) with
  | none=>rw[hd] at h;cases h
  | some d =>
   rw[hd] at h
   cases h
   obtain⟨C,fa,fd,ps,hC,hcl,hM,D⟩:=G.pg.meth c m fn hm
   obtain⟨ds,hb,hl,q⟩:=Ji8 D hd
   exact⟨C,fa,fd,k,ps,ds,hC,hcl,hM,D.ok,G.room.mono (ZaL k),hb,q,by omega⟩
theorem J1u (h:bmOf T m n=Za g):∃id,PlainAttrs T/\Slot T m id/\typeOf (.builtin id)=pure (.type "method_descriptor")/\MtI ce X T id g:=by
 unfold bmOf at h
 split at h
 ·rename_i hm
  simp only[Zr,beq_iff_eq] at hm
  obtain⟨⟨rfl,rfl⟩,_⟩:=hm
  cases h
  exact⟨_,ZbL,PySem.F.slot_list_append,PySem.F.type_list_append,Jtl⟩
 ·split at h
  ·rename_i hm
   simp only[Zr,beq_iff_eq] at hm
   obtain⟨⟨rfl,rfl⟩,_⟩:=hm
   cases h
   exact⟨_,ZbL,PySem.F.slot_list_extend,PySem.F.type_list_extend,Jtm⟩
  ·split at h
   ·rename_i hm
    simp only[Zr,beq_iff_eq] at hm
    obtain⟨⟨rfl,rfl⟩,_⟩:=hm
    cases h
    exact⟨_,ZbL,PySem.F.slot_list_pop,PySem.F.type_list_pop,J0a⟩
   ·split at h
    ·rename_i hm
     simp only[Zr,beq_iff_eq] at hm
     obtain⟨⟨rfl,rfl⟩,_⟩:=hm
     cases h
     exact⟨_,ZbL,PySem.F.slot_list_remove,PySem.F.type_list_remove,Jtn⟩
    ·split at h
     ·rename_i hm
      simp only[Zr,beq_iff_eq] at hm
      obtain⟨⟨rfl,rfl⟩,_⟩:=hm
      cases h
      exact⟨_,PySem.F.plainAttrs_str,PySem.F.slot_str_join,PySem.F.type_str_join,Jz9⟩
     ·split at h
      ·rename_i hm
       simp only[Zr,beq_iff_eq] at hm
       obtain⟨⟨rfl,rfl⟩,_⟩:=hm
       cases h
       exact⟨_,PySem.F.plainAttrs_dict,ZcY,PySem.F.type_dict_setdefault,Jto⟩
      ·cases h
theorem J1c {o:Expr}{m:Str}{mo:E1}{args:List Expr}{f:Expr->E1}{ap pos:Pos}{T:String}{g:IV->List IV->IH->Res IV}{n:Nat}(hg:bmOf T m n=Za g)(ho:PEi ce X o mo)(hf:∀e,PEi ce X e (f e))(ha:args.all Jy=Zh)(hb:V1 o=Zh)(hl:(ap.endLine==pos.line)=Zh)(hn:args.length<30) :
  PEi ce X (.Call (.Attribute o m ap) args [] pos) (eBm T g mo (aAll (args.map f))):=by
 obtain⟨id,pa,sl,ty,mt⟩:=J1u (ce:=ce) (X:=X) hg
 cases args with
 | nil=>exact J2a pa sl ty mt ho (Jc4 hb) hl
 | cons a es =>
  have ha':=ha
  simp only[Zar,Zr] at ha'
  exact i_bm pa sl ty mt ho (Vt ha hf) (Jc4 hb) (Jw2 ha hn) hl (J1 ha'.1) (Xf ha'.2)
theorem Jx9 (G:Good ce k P S X){o:Expr}{m:Str}{mo:E1}{args:List Expr}{f:Expr->E1}{ap pos:Pos}(ho:PEi ce X o mo)(hf:∀e,PEi ce X e (f e))(ha:args.all Jy=Zh)(hb:V1 o=Zh)(hl:(ap.endLine==pos.line)=Zh)(hn:args.length<30) :
  PEi ce X (.Call (.Attribute o m ap) args [] pos) (Jo P m args.length mo (aAll (args.map f))):=by
 refine J22 λ σi h=>?_
 unfold Jo
 cases e:mo σi h with
 | exc n h1=>exact⟨λ _ _=>.stuck,rfl,Jj⟩
 | stuck=>exact⟨λ _ _=>.stuck,rfl,Jj⟩
 | ok v h1 =>
  dsimp only
  split
  ·refine⟨_,rfl,?_⟩
   cases args with
   | nil=>exact Jxb ho (Jp9 G m 0) (Jhh hb ha hl hn)
   | cons a es =>
    have ha':=ha
    simp only[Zar,Zr] at ha'
    refine Jzp ho (Jp9 G m (a::es).length) (Vt ha hf) (λ σ h xs h' e=>?_) (J1 ha'.1) (Xf ha'.2) (Jhh hb ha hl hn)
    have:=XZ _ σ h xs h' e
    rwa [Zj] at this
  ·cases hg:bmOf (tyS v h1) m args.length with
   | none=>exact⟨λ _ _=>.stuck,rfl,Jj⟩
   | some g=>exact⟨_,rfl,J1c hg ho hf ha hb hl hn⟩
theorem Jt8 (G:Good ce k P S X){o:Expr}{m:Str}{mo:E1}{args:List Expr}{f:Expr->E1}{ap pos:Pos}(ho:PEi ce X o mo)(hf:∀e,PEi ce X e (f e))(ha:args.all Jy=Zh)(hb:V1 o=Zh)(hl:(ap.endLine==pos.line)=Zh)(hn:args.length<30) :
  PEi ce X (.Call (.Attribute o m ap) args [] pos) (Jww P m args.length (Jmz P S m o) mo (aAll (args.map f))):=by
 cases eb:Jmz P S m o with
 | none=>exact Jx9 G ho hf ha hb hl hn
 | some g =>
  cases o with
  | Name x q =>
   have eb2:(if m=="__init__"&&S.gl x&&P.bas x then P.cls x else Zc)=Za g:=eb
   clear eb
   split at eb2
   ·rename_i hq
    simp only[Zr,beq_iff_eq] at hq
    obtain⟨⟨rfl,hg⟩,hx⟩:=hq
    obtain⟨C,fa,fd,ps,hm,hC,M,D⟩:=G.pg.cls x g eb2
    obtain⟨C',hm',B⟩:=G.pg.bas x hx
    rw[hm] at hm'
    cases hm'
    obtain⟨gl,hdb,_⟩:=G.gl hg
    show PEi ce X _ (if args.length=0 then stE else VW g args.length (aAll (args.map f)))
    split
    ·exact Jj
    rename_i hz
    unfold VW
    cases hd:g.fill args.length with
    | none=>exact Jj
    | some d =>
     obtain⟨ds,hb',hl',q⟩:=Ji8 D hd
     have hr:Room k X.A:=G.room.mono (ZaL k)
     cases args with
     | nil=>exact absurd rfl hz
     | cons a es =>
      have ha':=ha
      simp only[Zar,Zr] at ha'
      refine Jzh D.ok hr gl hm B M hb' q (Vt ha hf) (λ σ h xs h' e=>?_) hdb (J1 ha'.1) (Xf ha'.2) (Jhh hb ha hl hn)
      have:=XZ _ σ h xs h' e
      rw[Zj] at this
      rw[this]
      exact hl'
   ·cases eb2
  | _=>cases eb
theorem Jya (G:Good ce k P S X){a:Expr}{ma:E1}{y:Str}{p p2 pos:Pos}(ha:PEi ce X a ma)(hs:Jy a=Zh)(hg:S.gl "isinstance"=Zh)(hfr:P.free "isinstance"=Zh)(hy:S.gl y=Zh) :
  PEi ce X (.Call (.Name "isinstance" p) [a,.Name y p2] [] pos) (Jwx (Jsk P y) ma):=by
 unfold Jwx
 cases e:Jsk P y with
 | none=>exact Jj
 | some ans =>
  obtain⟨gy,ydb,yn⟩:=G.gl hy
  have fin:∀{c:Ze},ClsE X (.Name y p2) c->IsOk ce X.K c ans->PEi ce X (.Call (.Name "isinstance" p) [a,.Name y p2] [] pos) (eIsi ans ma):=λ hc O =>
   J2e hc O ha (G.gl hg).1 (G.pg.free _ hfr) rfl (J1 hs) rfl rfl
  unfold Jsk at e
  cases hi:P.isa y with
  | some g =>
   rw[hi] at e
   cases e
   obtain⟨c,hm,O⟩:=G.pg.isa y g hi
   exact fin (Jwq gy hm ydb) O
  | none =>
   rw[hi] at e
   dsimp only at e
   split at e
   ·rename_i hf
    have hm:=G.pg.free y hf
    split at e
    ·rename_i q;cases (beq_iff_eq.mp q);cases e;exact fin (Ye gy hm rfl yn ydb) Jta
    ·split at e
     ·rename_i q;cases (beq_iff_eq.mp q);cases e;exact fin (Ye gy hm rfl yn ydb) Jqr
     ·split at e
      ·rename_i q;cases (beq_iff_eq.mp q);cases e;exact fin (Ye gy hm rfl yn ydb) Jtb
      ·split at e
       ·rename_i q
        cases (beq_iff_eq.mp q)
        cases e
        refine fin (Ye gy hm rfl yn ydb) ?_
        split
        ·rename_i q
         refine Jos λ C hC=>?_
         obtain⟨C',h1,_,h2⟩:=G.pg.ne _ q
         cases hC.symm.trans h1
         exact h2
        ·exact Jk4
       ·split at e
        ·rename_i q;cases (beq_iff_eq.mp q);cases e;exact fin (Ye gy hm rfl yn ydb) Jtc
        ·cases e
   ·cases e
theorem Jt9 (G:Good ce k P S X){a:Expr}{ma:E1}{x:Str}{p pos:Pos}(ha:PEi ce X a ma)(hs:Jy a=Zh)(hg:S.gl x=Zh)(hfr:P.free x=Zh)(hx:Jqp x=Zh) :
  PEi ce X (.Call (.Name x p) [a] [] pos) (eCB (bltF x) (Jb ma Jd)):=by
 obtain⟨gx,xdb,xn⟩:=G.gl hg
 have hm:=G.pg.free x hfr
 have hh:=G.room.hd
 have pa:PAi ce X [a] (Jb ma Jd):=QO ha Vc (J1 hs)
 unfold Jqp at hx
 simp only[Za5,beq_iff_eq] at hx
 rcases hx with((((rfl|rfl)|rfl)|rfl)|rfl)|rfl
 ·exact VG J1w gx hm rfl pa xn xdb (J1 hs) rfl
 ·exact VG (J1v hh) gx hm rfl pa xn xdb (J1 hs) rfl
 ·exact VG (J1z hh) gx hm rfl pa xn xdb (J1 hs) rfl
 ·exact VG Jsn gx hm rfl pa xn xdb (J1 hs) rfl
 ·exact VG (Jy2 hh) gx hm rfl pa xn xdb (J1 hs) rfl
 ·exact VG (Jy1 hh) gx hm rfl pa xn xdb (J1 hs) rfl
theorem Jua (G:Good ce k P S X){a:Expr}{ma:E1}{x:Str}{p pos:Pos}(ha:PEi ce X a ma)(hs:Jy a=Zh)(hg:S.gl x=Zh)(hfr:P.free x=Zh)(hx:Jqq x=Zh) :
  PEi ce X (.Call (.Name x p) [a] [] pos) (eCB (bltT x) (Jb ma Jd)):=by
 obtain⟨gx,xdb,xn⟩:=G.gl hg
 have hm:=G.pg.free x hfr
 have pa:PAi ce X [a] (Jb ma Jd):=QO ha Vc (J1 hs)
 unfold Jqq at hx
 simp only[Za5,beq_iff_eq] at hx
 rcases hx with rfl|rfl
 ·exact Jqk Jy0 gx hm rfl pa xn xdb (J1 hs) rfl
 ·exact Jqk Jwp gx hm rfl pa xn xdb (J1 hs) rfl
theorem Jrq (G:Good ce k P S X)(hf:∀e,PEi ce X e (f e)){args:List Expr}{p pos:Pos}(hg:S.gl x=Zh)(ha:args.all Jy=Zh)(hfr:P.free x=Zh) :
  PEi ce X (.Call (.Name x p) args [] pos) (Ji1 P S x f args):=by
 unfold Ji1
 split
 ·rename_i a b
  simp only[Zar,Zr] at ha
  obtain⟨gx,xdb,xn⟩:=G.gl hg
  have hm:=G.pg.free x hfr
  have pa:PAi ce X [a,b] (Jb (f a) (Jb (f b) Jd)):=QO (hf a) (QO (hf b) Vc (J1 ha.2.1)) (J1 ha.1)
  have h1:∀pos,(Zbq pos (ZD [b] X.env)).any (·.1)=Zk:=λ pos=>Xf (by simp[ha.2.1])
  split
  ·rename_i hs
   cases (beq_iff_eq.mp hs)
   exact VG (J1x G.calm) gx hm rfl pa xn xdb (J1 ha.1) (h1 _)
  ·split
   ·rename_i hs
    cases (beq_iff_eq.mp hs)
    exact VG (J1y G.calm) gx hm rfl pa xn xdb (J1 ha.1) (h1 _)
   ·split
    ·rename_i y p2 _
     split
     ·rename_i hs
      simp only[Zr,beq_iff_eq] at hs
      obtain⟨rfl,hy⟩:=hs
      exact Jya G (hf a) ha.1 hg hfr hy
     ·exact Jj
    ·exact Jj
 ·rename_i a
  simp only[Zar,Zr] at ha
  split
  ·rename_i e he
   split at he
   ·rename_i hc
    simp only[Zr,beq_iff_eq] at hc
    obtain⟨⟨rfl,g2⟩,f2⟩:=hc
    unfold Jvu at he
    split at he
    ·split at he
     ·rename_i hq
      simp only[Zr,beq_iff_eq] at hq
      obtain⟨rfl,ns⟩:=hq
      cases he
      exact Js5 G.room.hd (G.gl hg).1 (G.pg.free _ hfr) (G.gl g2).1 (G.pg.free _ f2) (QO (hf e) Vc (J1 ns)) (J1 ns)
     ·cases he
    ·cases he
   ·cases he
  ·split
   ·rename_i e he
    split at he
    ·rename_i hc
     simp only[Zr,beq_iff_eq] at hc
     obtain⟨⟨rfl,g2⟩,f2⟩:=hc
     unfold Jnf at he
     split at he
     ·split at he
      ·rename_i hq
       simp only[Zr,beq_iff_eq] at hq
       obtain⟨rfl,ns⟩:=hq
       cases he
       exact Jj
      ·cases he
     ·cases he
    ·cases he
   ·split
    ·rename_i hb
     exact Jt9 G (hf a) ha.1 hg hfr hb
    ·split
     ·rename_i hb
      exact Jua G (hf a) ha.1 hg hfr hb
     ·exact Jj
 ·exact Jj
theorem Qq.of (G:Good ce k P S X)(h:Qq S y sc=Zh):LamSc X.N X.env.scope.names y (Q0 sc) (jsOf S sc) sc:=by
 rw[G.n,G.sc]
 simp only[Qq,Zr,beq_iff_eq,ZaO,decide_eq_true_eq,ZaW,Za5,beq_eq_false_iff_ne] at h
 obtain⟨⟨⟨⟨⟨⟨⟨h1,h2⟩,h3⟩,h4⟩,h5⟩,h6⟩,h7⟩,h8⟩:=h
 refine⟨h1,h2,h3,h4,h5,λ z hz e=>(h6 z hz).resolve_left λ q=>q e,λ z e=>Zak e,λ i j z ej ez=>?_,by simp[jsOf],h8⟩
 unfold jsOf at ej
 rw[Z1,ez] at ej
 cases ej
 exact h7 z (Zb5 ez)
theorem Good.lam (G:Good ce k P S X)(ho:S.own=Zh){y:Str}{sc:Zbm}(h:Qq S y sc=Zh)(f:Zp)(cd:Ze)(s:Zm)(H:Hp):Good ce k P (S.lam y sc) (cxL X X.A.in1 (y::Q0 sc) S.q sc f cd s H):=by
 have L:=Qq.of G h
 exact⟨rfl,rfl,L.nd,L.kind,rfl,(G.room3 ho).in1.deeper _,λ z=>absurd z Zt,G.pg,λ z=>absurd z Zt,λ z=>absurd z Zt,λ z=>absurd z Zt⟩
theorem Good.lam2 (G:Good ce k P S X)(ho:S.own=Zh){y:Str}{sc:Zbm}(h:Qq S y sc=Zh)(f:Zp)(cd:Ze)(s:Zm)(H:Hp):Good ce k P (S.lam y sc) (cxL X X.A.in1.in1 (y::Q0 sc) S.q sc f cd s H):=by
 have L:=Qq.of G h
 have R:=G.room3 ho
 refine⟨rfl,rfl,L.nd,L.kind,rfl,⟨R.hd,?_,?_⟩,λ z=>absurd z Zt,G.pg,λ z=>absurd z Zt,λ z=>absurd z Zt,λ z=>absurd z Zt⟩
 ·have:=R.dp
  show X.A.depth+1+3*(k+1)+5<_
  omega
 ·have:=R.un
  show X.A.units+1+1+3+16*(k+1)+200<_
  omega
theorem Jpc (G:Good ce k P S X)(hf:∀S X e,Good ce k P S X->PEi ce X e (f S e)):PEi ce X (.Call (.Name x p) [a] [⟨Za y,.Lambda ps body sc lp,kp⟩,⟨Za y2,d,kp2⟩] pos) (Jrr P S f x a y ps body sc y2 d):=by
 unfold Jrr
 split
 ·rename_i e z j he hy hj
  split
  ·rename_i hq
   simp only[Zr,beq_iff_eq] at hq
   obtain⟨⟨⟨⟨⟨⟨⟨⟨⟨rfl,rfl⟩,rfl⟩,ht⟩,g1⟩,f1⟩,g2⟩,f2⟩,ho⟩,ok⟩:=hq
   unfold Jnf at he
   unfold Jzs at ht
   split at he
   ·split at he
    ·rename_i hc
     simp only[Zr,beq_iff_eq] at hc
     obtain⟨rfl,ns⟩:=hc
     cases he
     split at ht
     ·exact Js8 (k:=k) G.room.hd (G.gl g1).1 (G.pg.free _ f1) (G.gl g2).1 (G.pg.free _ f2) (QO (hf _ _ _ G) Vc (J1 ns)) (J1 ns) (G.room3 ho) (G.code ho).1 (G.code ho).2 (G.pg.blt _ _ hj) hy (Qq.of G ok) λ f cd s' H'=>hf _ _ _ (G.lam2 ho ok f cd s' H')
     ·cases ht
    ·cases he
   ·cases he
  ·exact Jj
 ·exact Jj
theorem Jud (G:Good ce k P S X)(hf:∀S X e,Good ce k P S X->PEi ce X e (f S e)):PEi ce X (.Call (.Name x p) [a] [⟨Za y,d,kp⟩] pos) (minK P S f x a y d):=by
 cases d with
 | Lambda ps body sc lp =>
  show PEi ce X _ (match QE ps,P.tabs S.q with|some z,Za j=>if x=="min"&&y=="key"&&S.gl x&&P.free x&&Jy a&&S.own&&Qq S z sc then Xu ltT S.q j (jsOf S sc) (Jb (f S a) Jd) (f (S.lam z sc) body) else stE|_,_=>stE)
  cases hy:QE ps with
  | none=>exact Jj
  | some z =>
   cases hj:P.tabs S.q with
   | none=>exact Jj
   | some j =>
    dsimp only
    split
    ·rename_i hq
     simp only[Zr,beq_iff_eq] at hq
     obtain⟨⟨⟨⟨⟨⟨rfl,rfl⟩,g1⟩,f1⟩,ns⟩,ho⟩,ok⟩:=hq
     exact Jzq (k:=k+1) (G.gl g1).1 (G.pg.free _ f1) (QO (hf _ _ _ G) Vc (J1 ns)) (λ A h=>Jwr (by omega)) (J1 ns) (G.room3 ho) (G.code ho).1 (G.code ho).2 (G.pg.blt _ _ hj) hy (Qq.of G ok) λ f cd s' H'=>hf _ _ _ (G.lam ho ok f cd s' H')
    ·exact Jj
 | _=>exact Jj
theorem J1d (G:Good ce k P S X)(hf:∀S X e,Good ce k P S X->PEi ce X e (f S e)):PEi ce X (.Call (.Name x p) args kws pos) (Jqy P S f x args kws):=by
 unfold Jqy
 split
 ·split
  ·rename_i hq
   simp only[Zr,beq_iff_eq] at hq
   obtain⟨⟨⟨⟨rfl,rfl⟩,g1⟩,f1⟩,ns⟩:=hq
   exact Jzn G.room.hd (G.gl g1).1 (G.pg.free _ f1) (QO (hf _ _ _ G) Vc (J1 ns)) (hf _ _ _ G) (J1 ns)
  ·exact Jud G hf
 ·split
  ·exact Jpc G hf
  split
  ·rename_i y j hy hj
   split
   ·rename_i hq
    simp only[Zr,beq_iff_eq] at hq
    obtain⟨⟨⟨⟨⟨⟨⟨rfl,rfl⟩,rfl⟩,g1⟩,f1⟩,ns⟩,ho⟩,ok⟩:=hq
    exact Jzo (k:=k+1) (G.gl g1).1 (G.pg.free _ f1) (QO (hf _ _ _ G) Vc (J1 ns)) (hf _ _ _ G) (J1 ns) (G.room3 ho) (G.code ho).1 (G.code ho).2 (G.pg.blt _ _ hj) hy (Qq.of G ok) λ f cd s' H'=>hf _ _ _ (G.lam ho ok f cd s' H')
   ·exact Jj
  ·exact Jj
 ·exact Jj
theorem Juf (ih:Snd ce k P n):Snd ce k P (n+1):=by
 refine⟨λ S X e G=>?_,λ S X e G=>?_,λ S X e G=>?_,λ S X x args p pos G hg ha=>?_,λ S X tg e G=>?_,λ S X e G=>?_⟩
 ·have ihe:=λ e=>ih.e S X e G
  have hu:=G.room.units
  cases e with
  | Constant c j p =>
   cases c with
   | int i=>exact J2d
   | bool b=>exact i_bl
   | none=>exact J2g
   | str x=>exact J2h
   | _=>exact Jj
  | Name x p =>
   show PEi ce X (.Name x p) (match S.vis x with|some i=>Ja i|none=>if S.gl x then(match P.con x with|some v=>eC v|none=>stE) else stE)
   cases hv:S.vis x with
   | some i =>
    obtain⟨h1,h2,h3,h4⟩:=G.vis hv
    exact J2j i h1 h2 h3 h4
   | none =>
    dsimp only
    split
    ·rename_i hg
     obtain⟨gx,xdb,_⟩:=G.gl hg
     cases hc:P.con x with
     | none=>exact Jj
     | some v =>
      obtain⟨u,y,hm,r,q⟩:=G.pg.con x v hc
      exact Jzl gx hm r q xdb
    ·exact Jj
  | BinOp a op b p=>exact J19 (J2o op) (ihe a) (ihe b)
  | UnaryOp op a p=>exact i_un (o_un op) (ihe a)
  | BoolOp op vs p =>
   cases op with
   | And=>exact Jve ihe vs
   | Or=>exact Jy7 ihe vs
  | IfExp t a b p=>exact Jw9 (ih.t S X t G) (ihe a) (ihe b)
  | Compare a ops cs p =>
   match ops,cs with
   | [o],[b] =>
    show PEi ce X _ (if Zcr o b then stE else Jc (cmpD P.ne o b) (ev P n S a) (ev P n S b))
    split
    ·exact Jj
    ·rename_i hb
     exact J2b (Jvq hu (λ c z=>let ⟨C,p,q,_⟩:=G.pg.ne c z;⟨C,p,q⟩) o b) (ihe a) (ihe b) (Zcd.mpr hb)
   | [o,o'],[b,c] =>
    show PEi ce X _ (if Zd7 [o,o'] [b,c] then stE else JT (cmpI o) (cmpI o') (ev P n S a) (ev P n S b) (ev P n S c))
    split
    ·exact Jj
    ·rename_i hb
     exact Jw8 (Yv hu o) (Yv hu o') (ihe a) (ihe b) (ihe c) (Zcd.mpr hb)
   | [],_=>exact Jj
   | [_],[]=>exact Jj
   | [_],_::_::_=>exact Jj
   | [_,_],[]=>exact Jj
   | [_,_],[_]=>exact Jj
   | [_,_],_::_::_::_=>exact Jj
   | _::_::_::_,_=>exact Jj
  | Tuple es j p =>
   show PEi ce X _ (if es.all Jy then JA (aAll (es.map (ev P n S))) else stE)
   split
   ·rename_i hs
    exact J2i (Vt hs ihe)
   ·exact Jj
  | List es p =>
   show PEi ce X _ (if es.all Jy then J0 (aAll (es.map (ev P n S))) else stE)
   split
   ·rename_i hs
    exact J2f (Vt hs ihe)
   ·exact Jj
  | Dict ks vs p =>
   match ks,vs with
   | [Za k],[v]=>exact Jj
   | [],[]=>exact Jzj
   | [],_::_=>exact Jj
   | [Zc],_=>exact Jj
   | [Za _],[]=>exact Jj
   | [Za _],_::_::_=>exact Jj
   | some _::_::_,_=>exact Jj
   | none::_::_,_=>exact Jj
  | Subscript a i p =>
   cases i with
   | Slice lo hi st q =>
    cases st with
    | none=>exact Jxc (J3q a) (ihe a) (ih.o S X lo G) (ih.o S X hi G)
    | some st=>exact Jj
   | _=>exact i_ix (J3p a) (ihe a) (ihe _) (Jth rfl)
  | Attribute o f p =>
   show PEi ce X _ (if V1 o&&P.fld f then Jp f (ev P n S o) else stE)
   split
   ·rename_i hs
    simp only[Zr] at hs
    exact J2c (ihe o) (G.pg.fld f hs.2) (Jc4 hs.1)
   ·exact Jj
  | Call f args kws p =>
   cases kws with
   | cons kw kws =>
    cases f with
    | Name x q=>exact J1d G λ S X e G=>ih.e S X e G
    | _=>exact Jj
   | nil =>
    cases f with
    | Name x q =>
     show PEi ce X _ (if S.gl x&&args.all Jy then Jqe P n S x args else stE)
     split
     ·rename_i hs
      simp only[Zr] at hs
      exact ih.c S X x args q p G hs.1 hs.2
     ·exact Jj
    | Attribute o m ap =>
     show PEi ce X _ (if args.all Jy&&V1 o&&(ap.endLine==p.line)&&decide (args.length<30) then Jww P m args.length (Jmz P S m o) (ev P n S o) (aAll (args.map (ev P n S))) else stE)
     split
     ·rename_i hs
      simp only[Zr,decide_eq_true_eq] at hs
      exact Jt8 G (ihe o) ihe hs.1.1.1 hs.1.1.2 hs.1.2 hs.2
     ·exact Jj
    | _=>exact Jj
  | ListComp elt gens sc p =>
   match gens with
   | [⟨tg,iter,ifs,as⟩] =>
    show PEi ce X _ (if as=0/\X4 iter=Zh/\QA S.N (V0 sc) (Q0 sc) (jsOf S sc) S.fake sc=Zh then
     Jp1 ifs (evT P n (S.comp sc)) (λ mt=>Jz (evI P n S tg iter) (V0 sc).length (jsOf S sc) (tgt P n (S.comp sc) tg) mt (ev P n (S.comp sc) elt)) else stE)
    split
    ·rename_i hs
     obtain⟨rfl,hi,ok⟩:=hs
     have Gc:=G.comp ok
     have ok':=ok
     rw[<- Jko G] at ok'
     match ifs with
     | []=>exact Jvg G.calm (ih.i S X tg iter G) (λ C s H fp=>ih.g _ _ tg (Gc C s H fp)) (λ C s H fp=>Jv2) (λ C s H fp=>ih.e _ _ elt (Gc C s H fp)) ok' G.n rfl (Yl hi)
     | [c]=>exact Jvg G.calm (ih.i S X tg iter G) (λ C s H fp=>ih.g _ _ tg (Gc C s H fp)) (λ C s H fp=>Jv3 (ih.t _ _ c (Gc C s H fp))) (λ C s H fp=>ih.e _ _ elt (Gc C s H fp)) ok' G.n rfl (Yl hi)
     | _::_::_=>exact Jj
    ·exact Jj
   | []=>exact Jj
   | ⟨_,_,_,_⟩::_::_=>exact Jj
  | _=>exact Jj
 ·have ihe:=λ e=>ih.e S X e G
  have hu:=G.room.units
  cases e with
  | UnaryOp op a p =>
   cases op with
   | Not=>exact J3g (ih.t S X a G)
   | _=>exact J1f Y2 (ihe _)
  | BoolOp op vs p =>
   cases op with
   | And=>exact(Jvy (λ e=>ih.t S X e G) vs).t
   | Or=>exact(J1e (λ e=>ih.t S X e G) vs).t
  | IfExp t a b p=>exact Jj
  | Compare a ops cs p =>
   match ops,cs with
   | [o],[b] =>
    show PTi ce X _ (if Zcr o b then stT else Jh asB (Jc (cmpD P.ne o b) (ev P n S a) (ev P n S b)))
    split
    ·exact Jj
    ·rename_i hb
     exact J3f (Jvq hu (λ c z=>let ⟨C,p,q,_⟩:=G.pg.ne c z;⟨C,p,q⟩) o b) (ihe a) (ihe b) (Zcd.mpr hb)
   | [o,o'],[b,c] =>
    show PTi ce X _ (if Zd7 [o,o'] [b,c] then stT else Jh asB (JT (cmpI o) (cmpI o') (ev P n S a) (ev P n S b) (ev P n S c)))
    split
    ·exact Jj
    ·rename_i hb
     exact Jyi (Yv hu o) (Yv hu o') (ihe a) (ihe b) (ihe c) (Zcd.mpr hb)
   | [],_=>exact Jj
   | [_],[]=>exact Jj
   | [_],_::_::_=>exact Jj
   | [_,_],[]=>exact Jj
   | [_,_],[_]=>exact Jj
   | [_,_],_::_::_::_=>exact Jj
   | _::_::_::_,_=>exact Jj
  | _=>exact J1f Y2 (ihe _)
 ·cases e with
  | none=>exact J0o
  | some e=>exact J0p (ih.e S X e G)
 ·have ihe:=λ e=>ih.e S X e G
  show PEi ce X _ (match P.fn x with
  | some f=>VW f args.length (aAll (args.map (ev P n S)))
  | none=>match P.cls x with
   | some f=>Jm6 x f args.length (aAll (args.map (ev P n S)))
   | none=>if P.free x then Ji1 P S x (ev P n S) args else stE)
  cases hx:P.fn x with
  | some f=>exact Jub G hx hg ha ihe
  | none =>
   dsimp only
   cases hc:P.cls x with
   | some f=>exact Juc G hc hg ha ihe
   | none =>
    dsimp only
    split
    ·rename_i hfr
     exact Jrq G ihe hg ha hfr
    ·exact Jj
 ·have ihe:=λ e=>ih.e S X e G
  cases e with
  | Call f args kws p =>
   cases kws with
   | cons _ _=>cases f<;>exact Js4 (ihe _)
   | nil =>
    cases f with
    | Name x q =>
     show PIi ce X tg _ (if S.gl x&&P.free x&&args.all Jy&&(x=="range") then Jzg args.length (aAll (args.map (ev P n S)))
      else if S.gl x&&P.free x&&args.all Jy&&(x=="enumerate") then(match tg,args with
       | .Tuple ..,[a]=>iRg QS (Jb (ev P n S a) Jd)
       | _,_=>stI)
      else Jw (ev P n S (.Call (.Name x q) args [] p)))
     split
     ·rename_i hs
      simp only[Zr,beq_iff_eq] at hs
      obtain⟨⟨⟨hg,hf⟩,ha⟩,rfl⟩:=hs
      obtain⟨gx,_,_⟩:=G.gl hg
      have hm:=G.pg.free _ hf
      have pa:=Vt ha ihe
      match args,ha,pa with
      | [],_,_=>exact Jgd
      | [a],ha,pa =>
       simp only[Zar,Zr] at ha
       exact Js6 gx hm pa (J1 ha.1)
      | [a,b],ha,pa =>
       simp only[Zar,Zr] at ha
       exact Js7 gx hm pa (by rw[J1 ha.1,J1 ha.2.1];rfl) (J1 ha.2.1)
      | _::_::_::_,_,_=>exact Jgd
     ·split
      ·rename_i hs
       simp only[Zr,beq_iff_eq] at hs
       obtain⟨⟨⟨hg,hf⟩,ha⟩,rfl⟩:=hs
       obtain⟨gx,_,_⟩:=G.gl hg
       have hm:=G.pg.free _ hf
       split
       ·simp only[Zar,Zr] at ha
        exact Jzk gx hm (QO (ihe _) Vc (J1 ha.1)) (J1 ha.1)
       ·exact Jgd
      ·exact Js4 (ihe _)
    | _=>exact Js4 (ihe _)
  | _=>exact Js4 (ihe _)
 ·cases e with
  | Name x p =>
   show PGi ce X _ (match S.sto x with|some i=>gNm i|none=>stG)
   cases hv:S.sto x with
   | none=>exact X7
   | some i =>
    obtain⟨h1,h2,h3⟩:=G.sto hv
    exact g_nm G.nodup h1 h2 h3
  | Tuple es j p =>
   show PGi ce X _ (if es.all Jy then gTp es.length (gAll (es.map (tgt P n S))) else stG)
   split
   ·rename_i hs
    exact J15 G.calm (Jvf hs λ e=>ih.g S X e G) (Ju8 hs) (Jpq hs)
   ·exact X7
  | Subscript o i p =>
   show PGi ce X _ (if Xb i then gSbF o (ev P n S o) (ev P n S i) else stG)
   split
   ·rename_i hs
    unfold gSbF
    split
    ·refine Jzb (ih.e S X o G) (ih.e S X i G) λ v=>?_
     cases i<;>first|rfl|cases hs
    ·exact X7
   ·exact X7
  | _=>exact X7
theorem Jjv (ce:CeT)(k:Nat)(P:Pg):∀n,Snd ce k P n
 | 0=>Jug
 | n+1=>Juf (Jjv ce k P n)
end
section
variable {ce:CeT}{X:Cx}{pos:Pos}
theorem Jx6 {c:Expr}{body:List Zdh}{mt:T1}{mb:S1}(hc:PTi ce X c mt)(hb:PS2 ce X body mb):PS1 ce X (.While c body [] pos) (Xd mt mb):=by
 intro pj s σ H ι σi h Q E N K
 unfold Xd at K
 generalize XN=m0 at K
 refine wpAny_While (codeAny_whileLoop (λ n s'=>∃ιk σk hk σ' H',Now ce X pj ιk σk hk σ' H' s'/\Nxt ι H ιk H'/\JF ce X pj ιk H' (V4 mt mb n σk hk) Q E) ?_ m0 ⟨ι,σi,h,σ,H,N,.refl,K⟩)
 rintro n s1 ⟨ι1,σ1i,h1,σ1,H1,N1,n1,K1⟩
 cases n with
 | zero=>exact Zf K1
 | succ n =>
  unfold V4 at K1
  refine nof (hc pj s1 σ1 H1 ι1 σ1i h1 _ (λ _ _=>False) N1 ?_)
  cases et:mt σ1i h1 with
  | exc m h2=>rw[et] at K1;exact Zf K1
  | stuck=>rw[et] at K1;exact Zf K1
  | ok b h2 =>
   rw[et] at K1
   intro b' s2 H2 ι2 N2 n2 r2
   have r':b'=b:=r2
   subst r'
   dsimp only at K1
   cases b' with
   | false=>exact ZcX (K1 s2 σ1 H2 ι2 N2 n2)
   | true =>
    rw[if_pos rfl]
    rw[if_pos rfl] at K1
    refine nof (hb pj s2 σ1 H2 ι2 σ1i h2 _ (λ _ _=>False) N2 ?_)
    cases eb:mb σ1i h2 with
    | next σ3 h3 =>
     rw[eb] at K1
     exact λ s3 σ3' H3 ι3 N3 n3=>⟨n,Zaz n,ι3,σ3,h3,σ3',H3,N3,(n1.trans n2).trans n3,JF.mono (r:=V4 mt mb n σ3 h3) K1 (n2.trans n3)⟩
    | cont σ3 h3 =>
     rw[eb] at K1
     exact λ s3 σ3' H3 ι3 N3 n3=>⟨n,Zaz n,ι3,σ3,h3,σ3',H3,N3,(n1.trans n2).trans n3,JF.mono (r:=V4 mt mb n σ3 h3) K1 (n2.trans n3)⟩
    | brk σ3 h3 =>
     rw[eb] at K1
     exact λ s3 σ3' H3 ι3 N3 n3=>K1 s3 σ3' H3 ι3 N3 (n2.trans n3)
    | ret v h3 =>
     rw[eb] at K1
     exact λ u s3 σ3i σ3' H3 ι3 N3 n3 r=>K1 u s3 σ3i σ3' H3 ι3 N3 (n2.trans n3) r
    | exc m σ3 h3=>rw[eb] at K1;exact Zf K1
    | stuck=>rw[eb] at K1;exact Zf K1
theorem Js9 (no:¬ ∃i j,op=.Add/\x=.int i/\y=.int j):ipI op x y h=.stuck:=by
 unfold ipI
 split
 ·exact absurd ⟨_,_,rfl,rfl,rfl⟩ no
 ·rfl
theorem o_ip (op:ZcE):OpI ce X (inplaceOp op) (ipI op):=by
 intro pj s σ H ι σi h x y v u Q E N rx ry K
 by_cases c:∃i j,op=.Add/\x=.int i/\y=.int j
 ·obtain⟨i,j,rfl,rfl,rfl⟩:=c
  obtain⟨xv,rx,qx⟩:=rx
  obtain⟨yv,ry,qy⟩:=ry
  cases (show xv=.int i from qx)
  cases (show yv=.int j from qy)
  obtain⟨t,rfl⟩:=rx
  obtain⟨t',rfl⟩:=ry
  exact iadd_int (K _ _ H ι ⟨N.inv.tok _,N.rel,N.st⟩ .refl ⟨.int (i+j),⟨_,rfl⟩,rfl⟩)
 ·rw[Js9 c] at K
  exact Zf K
theorem J3a {i:Nat}{x:Str}{e:Expr}{me:E1}{op:ZcE}{pos':Pos}(hN:X.N.Nodup)(he:PEi ce X e me)(hi:X.N[i]?=Za x)(hx:Loc X.env.scope x)(hf:X.fn x=Zh∨X.env.scope.names.lookup x=Za .local) :
  PS1 ce X (.AugAssign (.Name x pos') op e pos) (sAug op i me):=by
 intro pj s σ H ι σi h Q E N K
 refine wpAny_AugAssign_Name ?_
 unfold sAug at K
 cases ev:Ja i σi h with
 | exc n h1=>exfalso;unfold Ja at ev;split at ev<;>cases ev
 | stuck=>rw[ev] at K;exact Zf K
 | ok v h1 =>
  rw[ev] at K
  obtain⟨e1,rfl⟩:σi[i]?=Za (Za v)/\h1=h:=by
   unfold Ja at ev
   split at ev
   ·rename_i q;cases ev;exact⟨q,rfl⟩
   ·cases ev
  obtain⟨w,hw,qw⟩:=N.st.at_ i v e1
  obtain⟨m,hn,hl⟩:=N.inv.loc
  have vis:Vis X.env.scope x:=by rcases hx with k|k;exact .inl k;exact .inr (.inl k)
  obtain⟨u,r,l⟩:=hl i x w hi hw vis
  have go:Zy (Z9 X.prog X.w) X.A (ZaY e X.env) (λ w s₂=>Zy (Z9 X.prog X.w) X.A (inplaceOp op u w) (λ r s₃=>Zy (Z9 X.prog X.w) X.A (storeName X.env x r) (λ _=>Q .next) E s₃) E s₂) E s:=by
   refine krun he N K λ y h2 uy s2 H2 ι2 N2 n2 r2 K2=>?_
   refine o_ip op pj s2 σ H2 ι2 σi h2 v y u uy _ E N2 ⟨w,r,RV.mono n2 _ _ qw⟩ r2 ?_
   cases ez:ipI op v y h2 with
   | exc n h3 =>
    rw[ez] at K2
    exact λ pl a s' H' ι' N' n' q=>K2 pl a s' σ H' ι' N' n' q s' (.inl rfl)
   | stuck=>rw[ez] at K2;exact K2
   | ok z h3 =>
    rw[ez] at K2
    intro uz s3 H3 ι3 N3 n3 r3
    obtain⟨zv,rz,qz⟩:=r3
    exact Jgf N3.inv hN hi hx rz (λ s4 I4=>K2 s4 _ H3 ι3 ⟨I4,N3.rel,N3.st.set i qz⟩ n3) hf
  rcases l with⟨hk,hm⟩|⟨hk,c,hc,hcell⟩
  ·exact wpAny_loadName_local N.inv.ok.kind hk hn hm go
  ·rcases hk with hk|hk
   ·exact wpAny_loadName_cell N.inv.ok.kind hk hc hcell go
   ·rcases hx with k|k
    ·have:X.env.scope.names.lookup x=Za .free:=hk
     rw[k] at this;cases this
    ·have:X.env.scope.names.lookup x=Za .free:=hk
     rw[k] at this;cases this
theorem J02 {fl:Str}{o e:Expr}{mo me:E1}{op:ZcE}{tpos:Pos}(ho:PEi ce X o mo)(he:PEi ce X e me)(hf:XX ce X.K fl):PS1 ce X (.AugAssign (.Attribute o fl tpos) op e pos) (XD op fl mo me):=by
 intro pj s σ H ι σi h Q E N K
 refine wpAny_AugAssign_AttributeAny (krun ho N K λ ov h1 w s1 H1 ι1 N1 n1 r1 K1=>?_)
 cases ov with
 | ref i =>
  obtain⟨w,rw',a,e1,hi⟩:=r1
  subst e1
  cases rw'
  dsimp only at K1
  cases hh:h1[i]? with
  | none=>rw[hh] at K1;exact Zf K1
  | some ob =>
   cases ob with
   | ins c fs =>
    rw[hh] at K1
    dsimp only at K1
    cases hl:fs.lookup fl with
    | none=>rw[hl] at K1;exact Zf K1
    | some x =>
     rw[hl] at K1
     obtain⟨C,dx,vs,hC,hH,rp⟩:=N1.at hh hi
     obtain⟨cl,na⟩:=hf c C hC
     obtain⟨y,hy,q⟩:=(RPs.lookup rp).1 x hl
     refine Jik N1.inv hH cl na hy λ u' s2 I2 ru=>?_
     refine krun he (⟨I2,N1.rel,N1.st⟩:Now ce X pj ι1 σi h1 σ H1 s2) K1 λ z h3 uz s3 H3 ι3 N3 n3 r3 K3=>?_
     refine o_ip op pj s3 σ H3 ι3 σi h3 x z u' uz _ E N3 ⟨y,ru,RV.mono n3 _ _ q⟩ r3 ?_
     cases ez:ipI op x z h3 with
     | exc n h4 =>
      rw[ez] at K3
      exact λ pl a s' H' ι' N' n' q=>K3 pl a s' σ H' ι' N' n' q s' (.inl rfl)
     | stuck=>rw[ez] at K3;exact K3
     | ok v h4 =>
      rw[ez] at K3
      intro uv s4 H4 ι4 N4 n4 r4
      dsimp only[rS] at K3
      have hi4:ι4[i]?=Za a:=n4.at (n3.at hi)
      cases h4i:h4[i]? with
      | none=>rw[h4i] at K3;exact Zf K3
      | some ob =>
       cases ob with
       | ins c' gs =>
        rw[h4i] at K3
        dsimp only at K3
        split at K3
        ·rename_i hz
         obtain⟨C',dx',vs',hC',hH',rp'⟩:=N4.at h4i hi4
         obtain⟨cl',na'⟩:=hf c' C' hC'
         obtain⟨yv,ryv,qv⟩:=r4
         refine Jiq N4.inv hH' cl' na' (by rw[rp'.length];exact hz) ryv λ s5 I5=>?_
         have n5:Nxt ι4 H4 ι4 (upd H4 a (.ins C' dx' (putF fl yv vs'))):=⟨⟨[],by simp⟩,Ext.upd_mut hH' (by rw[hH'];exact Zat)⟩
         obtain⟨R5,_⟩:=N4.rel.write (o:=.ins C' dx' (putF fl yv vs')) (io:=.ins c' (putI fl v gs)) hi4 hH' (by rw[hH'];exact Zat) ⟨C',dx',_,hC',J7,RPs.put (RV.mono n5 _ _ qv) (RPs.mono n5 _ _ rp')⟩
         exact K3 s5 σ _ ι4 ⟨I5,R5,N4.st.mono n5⟩ (n4.trans n5)
        ·exact Zf K3
       | _=>rw[h4i] at K3;exact Zf K3
   | _=>rw[hh] at K1;exact Zf K1
 | _=>exact Zf K1
theorem Jzc:OpI ce X ZdM ixL:=by
 intro pj s σ H ι σi h x y v u Q E N rx ry K
 obtain⟨xv,rx,qx⟩:=rx
 obtain⟨yv,ry,qy⟩:=ry
 cases x with
 | ref i =>
  cases y with
  | int k =>
   obtain⟨a,rfl,ha⟩:=qx
   cases (show yv=.int k from qy)
   cases rx
   obtain⟨t,rfl⟩:=ry
   dsimp only[ixL] at K
   cases hi:h[i]? with
   | none=>rw[hi] at K;exact Zf K
   | some ob =>
    rw[hi] at K
    cases ob with
    | lst xs =>
     dsimp only at K
     cases hk:atI xs k with
     | none=>rw[hk] at K;exact Zf K
     | some z =>
      rw[hk] at K
      dsimp only at K
      split at K
      ·rename_i h0
       obtain⟨vs,e1,r1⟩:=N.at hi ha
       obtain⟨w,hw,qw⟩:=Jiv r1 hk
       obtain⟨its,r,pl,hz⟩:=N.inv.list (SqL.of e1)
       obtain⟨j,g1,g2,g3,g4,g5⟩:=Jiu hw
       obtain⟨w',ew,rw'⟩:=r.get g2
       have hn:=VY
       have hj:k.toNat=j:=by
        rw[Zeb h0 g5] at g1
        exact Zao g1
       exact wpAny_getItem_list pl.isList h0 (by omega) (by rw[hj];simpa using ew) (K _ _ H ι N .refl ⟨w,rw',qw⟩)
      ·exact Zf K
    | _=>exact Zf K
  | _=>exact Zf K
 | _=>cases y<;>exact Zf K
theorem Jz3 (p:OpI ce X f g)(N:Now ce X pj ι σi h σ H s)(rx:RU X.K ι H x v)(ry:RU X.K ι H y u) 
  {k:IV->IH->SRes}{Q:Flow->Zm->Prop}{E:QvT}{Q1:QvT}(K:JF ce X pj ι H (rS σi (g x y h) k) Q E)
  (step:∀z h1 w s1 H1 ι1,Now ce X pj ι1 σi h1 σ H1 s1->Nxt ι H ι1 H1->RU X.K ι1 H1 z w->JF ce X pj ι1 H1 (k z h1) Q E->Q1 w s1):Zy (Z9 X.prog X.w) X.A (f v u) Q1 E s:=by
 refine p pj s σ H ι σi h x y v u Q1 E N rx ry ?_
 cases e:g x y h with
 | ok z h' =>
  rw[e] at K
  exact λ w s' H' ι' N' n' r=>step z h' w s' H' ι' N' n' r (JF.mono (r:=k z h') K n')
 | exc n h' =>
  rw[e] at K
  exact λ pl a s' H' ι' N' n' q=>K pl a s' σ H' ι' N' n' q s' (.inl rfl)
 | stuck =>
  rw[e] at K
  exact K
theorem J1b {pj:PnT}{s:Zm}{σ:L2.St}{H:Hp}{ι:List Zp}{σi:ISt}{h:IH}{o i v:IV}{ou iu u:Ze}{Q:Flow->Zm->Prop}{E:QvT}(N:Now ce X pj ι σi h σ H s)(ro:RU X.K ι H o ou)(ri:RU X.K ι H i iu)(rv:RU X.K ι H v u)
  (K:JF ce X pj ι H (setI o i v σi h) Q E):Zy (Z9 X.prog X.w) X.A (setItem ou iu u) (λ _=>Q .next) E s:=by
 obtain⟨ox,ro,qo⟩:=ro
 obtain⟨ix,ri,qi⟩:=ri
 obtain⟨vx,rvx,qv⟩:=rv
 cases o with
 | ref i =>
  rename_i iv
  cases iv with
  | int k =>
   obtain⟨a,rfl,haa⟩:=qo
   cases (show ix=.int k from qi)
   dsimp only[setI] at K
   cases hh:h[i]? with
   | none=>rw[hh] at K;exact Zf K
   | some ob =>
    rw[hh] at K
    cases ob with
    | lst xs =>
     dsimp only at K
     cases hj:ixN xs.length k with
     | none=>rw[hj] at K;exact Zf K
     | some j =>
      rw[hj] at K
      obtain⟨ws,e1,r1'⟩:=N.at hh haa
      refine Zap (Jt6 (X:=X.wish E) pj s σ H (.ref a) (.int k) vx ou iu u (λ H'=>H'=upd H a (.lst (ws.set j vx))) (N.inv.wish E) ro ri rvx ⟨a,ws,k,j,rfl,rfl,e1,by rw[r1'.length];exact hj,rfl⟩) (λ _ s3 hq=>?_) λ _ _ z=>z
      obtain⟨H',I',rfl⟩:=hq
      have n:Nxt ι H ι (upd H a (.lst (ws.set j vx))):=⟨⟨[],by simp⟩,Ext.upd_mut e1 (by rw[e1];exact Zat)⟩
      obtain⟨R3,_⟩:=N.rel.write (o:=.lst (ws.set j vx)) (io:=.lst (xs.set j v)) haa e1 (by rw[e1];exact Zat) ⟨_,J7,(RVs.mono n _ _ r1').set (RV.mono n _ _ qv) j⟩
      exact K s3 σ _ ι ⟨I'.unwish,R3,N.st.mono n⟩ n
    | _=>exact Zf K
  | _=>exact Zf K
 | _=>cases i<;>exact Zf K
theorem J03 {o i e:Expr}{mo mi me:E1}{op:ZcE}{tpos:Pos}(ho:PEi ce X o mo)(hi:PEi ce X i mi)(he:PEi ce X e me)(hs:Xb i=Zh):PS1 ce X (.AugAssign (.Subscript o i tpos) op e pos) (XE op mo mi me):=by
 intro pj s σ H ι σi h Q E N K
 refine wpAny_AugAssign_SubscriptAny (krun ho N K λ ov h1 ou s1 H1 ι1 N1 n1 r1 K1=>krun hi N1 K1 λ kv h2 ku s2 H2 ι2 N2 n2 r2 K2=>?_) (λ _ _ _=>by cases i<;>first|rfl|cases hs)
 refine Jz3 Jzc N2 (r1.mono n2) r2 K2 λ x h3 xu s3 H3 ι3 N3 n3 r3 K3=>?_
 refine krun he N3 K3 λ y h4 yu s4 H4 ι4 N4 n4 r4 K4=>?_
 refine Jz3 (o_ip op) N4 (r3.mono n4) r4 K4 λ z h5 zu s5 H5 ι5 N5 n5 r5 K5=>?_
 exact J1b N5 ((((r1.mono n2).mono n3).mono n4).mono n5) (((r2.mono n3).mono n4).mono n5) r5 K5
end
section
variable {ce:CeT}{k:Nat}{P:Pg}{n:Nat}{S:Sc}{X:Cx}
theorem XC (hf:∀s,PS1 ce X s (f s)):∀(l:List Zdh),PS2 ce X l (sAll (l.map f))
 | []=>J0z
 | [a]=>J00 (hf a)
 | a::b::r=>Jx1 (hf a) (XC hf (b::r))
end
section
variable {ce:CeT}{k:Nat}{P:Pg}{S:Sc}{X:Cx}{xi:Xi}{xf:Str->Str->Bool}{fr:Str->Bool}
end
section
variable {ce:CeT}{k:Nat}{P:Pg}{n:Nat}{S:Sc}{X:Cx}
theorem Jwi {tg:Expr}{env:Env}(h:Jy tg=Zh):(ZaJ [tg] env).map (·.2)=[ZdN tg env]:=by
 cases tg<;>first|rfl|cases h
theorem Jue (G:Good ce k P S X)(i:Nat){p q:Pos}(h:isLC e=Zh)(h1:X.N[i]?=Za x)(h2:L2.Loc X.env.scope x)(h3:X.fn x=Zh∨X.env.scope.names.lookup x=Za .local) :
  PS1 ce X (.Assign [.Name x q] e p) (Ji i (ev P n S e)):=by
 cases e with
 | ListComp elt gens sc cp =>
  cases hb:(X.env.blockKind==.function&&X.env.kindOf x==Za .local&&q.line==cp.line&&!(sc.names.any λ (n,k)=>n==x&&(k==.local||k==.cell))) with
  | false =>
   refine J08 G.nodup ((Jjv ce k P n).e S X _ G) h1 h2 ?_ h3
   show(pure (X.env.blockKind==.function&&X.env.kindOf x==Za .local&&q.line==cp.line&&!(sc.names.any λ (n,k)=>n==x&&(k==.local||k==.cell))):Sem Bool)=pure Zk
   rw[hb]
  | true =>
   have hsw:Zdf (.ListComp elt gens sc cp) (Za (.Name x q)) p.line X.env=pure Zh:=by
    show(pure (X.env.blockKind==.function&&X.env.kindOf x==Za .local&&q.line==cp.line&&!(sc.names.any λ (n,k)=>n==x&&(k==.local||k==.cell))):Sem Bool)=pure Zh
    rw[hb]
   have dead:∀m:E1,(∀σ h,m σ h=.stuck)->PS1 ce X (.Assign [.Name x q] (.ListComp elt gens sc cp) p) (Ji i m):=λ m hm=>by
    intro pj s σ H ι σi h Q E N K
    unfold Ji at K
    rw[hm] at K
    exact Zf K
   cases n with
   | zero=>exact dead _ λ _ _=>rfl
   | succ n =>
    have ih:=Jjv ce k P n
    match gens,hsw with
    | [⟨tg,iter,ifs,as⟩],hsw =>
     show PS1 ce X _ (Ji i (if as=0/\X4 iter=Zh/\QA S.N (V0 sc) (Q0 sc) (jsOf S sc) S.fake sc=Zh then
      Jp1 ifs (evT P n (S.comp sc)) (λ mt=>Jz (evI P n S tg iter) (V0 sc).length (jsOf S sc) (tgt P n (S.comp sc) tg) mt (ev P n (S.comp sc) elt)) else stE))
     split
     ·rename_i hs
      obtain⟨rfl,hi,ok⟩:=hs
      have Gc:=G.comp ok
      have ok':=ok
      rw[<- Jko G] at ok'
      match ifs,hsw with
      | [],hsw=>exact Jvt G.calm (ih.i S X tg iter G) (λ C s H fp=>ih.g _ _ tg (Gc C s H fp)) (λ C s H fp=>Jv2) (λ C s H fp=>ih.e _ _ elt (Gc C s H fp)) ok' G.n rfl (Yl hi) G.nodup h1 h2 h3 hsw
      | [c],hsw=>exact Jvt G.calm (ih.i S X tg iter G) (λ C s H fp=>ih.g _ _ tg (Gc C s H fp)) (λ C s H fp=>Jv3 (ih.t _ _ c (Gc C s H fp))) (λ C s H fp=>ih.e _ _ elt (Gc C s H fp)) ok' G.n rfl (Yl hi) G.nodup h1 h2 h3 hsw
      | _::_::_,_=>exact dead _ λ _ _=>rfl
     ·exact dead _ λ _ _=>rfl
    | [],_=>exact dead _ λ _ _=>rfl
    | ⟨_,_,_,_⟩::_::_,_=>exact dead _ λ _ _=>rfl
 | _=>cases h
theorem Jnl (ce:CeT)(k:Nat)(P:Pg):∀(n:Nat)(S:Sc)(X:Cx)(st:Zdh),Good ce k P S X->PS1 ce X st (ex P n S st)
 | 0,_,_,_,_=>JU
 | n+1,S,X,st,G=>by
  have ih:=λ st=>Jnl ce k P n S X st G
  have E:=Jjv ce k P n
  have ihe:=λ e=>E.e S X e G
  cases st with
  | Pass p=>exact J06
  | Break p=>exact Jx5
  | Continue p=>exact J04
  | Expr e p =>
   show PS1 ce X _ (if V2 e then JL (ev P n S e) else stS)
   split
   ·rename_i h
    exact J05 (ihe e) (Jda h)
   ·exact JU
  | Return v p =>
   cases v with
   | none=>exact J07
   | some e=>exact J3d (ihe e)
  | If c a b p=>exact s_if (E.t S X c G) (XC ih a) (XC ih b)
  | Raise exc cause p=>exact JU
  | Try body hs o f p=>exact JU
  | While c a o p =>
   cases o with
   | nil=>exact Jx6 (E.t S X c G) (XC ih a)
   | cons _ _=>exact JU
  | For tg it a o p =>
   cases o with
   | nil =>
    show PS1 ce X _ (if X4 it&&S.own then sFor (evI P n S tg it) (tgt P n S tg) (sAll (a.map (ex P n S))) else stS)
    split
    ·rename_i h
     rw[Zr] at h
     obtain⟨hk,hf⟩:=G.top h.2
     exact J3c G.calm hk hf (E.i S X tg it G) (E.g S X tg G) (XC ih a) (Yl h.1)
    ·exact JU
   | cons _ _=>exact JU
  | AugAssign tg op e p =>
   cases tg with
   | Name x q =>
    show PS1 ce X _ (match S.sto x with|some i=>sAug op i (ev P n S e)|none=>stS)
    cases hv:S.sto x with
    | none=>exact JU
    | some i =>
     obtain⟨h1,h2,h3⟩:=G.sto hv
     exact J3a G.nodup (ihe e) h1 h2 h3
   | Attribute o f q =>
    show PS1 ce X _ (if P.fld f then XD op f (ev P n S o) (ev P n S e) else stS)
    split
    ·rename_i h
     exact J02 (ihe o) (ihe e) (G.pg.fld f h)
    ·exact JU
   | Subscript o i q =>
    show PS1 ce X _ (if Xb i then XE op (ev P n S o) (ev P n S i) (ev P n S e) else stS)
    split
    ·rename_i h
     exact J03 (ihe o) (ihe i) (ihe e) h
    ·exact JU
   | _=>exact JU
  | Assign tgs e p =>
   match tgs with
   | []=>exact JU
   | a::_::_=>cases a<;>exact JU
   | [tg] =>
    have gen:PS1 ce X (.Assign [tg] e p) (if V2 e&&((Jte tg&&Jxp e)||Jtd tg) then sAsg (ev P n S e) (tgt P n S tg) else stS):=by
     split
     ·rename_i h
      simp only[Zr,Za5] at h
      have hst:Jy tg=Zh:=by
       rcases h.2 with q|q
       ·cases tg<;>first|rfl|(simp[Jte] at q)
       ·cases tg<;>first|rfl|(simp[Jtd] at q)
      refine J29 (ihe e) (E.g S X tg G) (Jda h.1) ?_ (Jwi hst)
      rcases h.2 with q|q
      ·cases tg with
       | Tuple es j pp =>
        have q2:=q.2
        cases e<;>first|rfl|(simp[Jxp] at q2)
       | _=>simp[Jte] at q
      ·cases tg with
       | Subscript=>cases e<;>rfl
       | _=>simp[Jtd] at q
     ·exact JU
    cases tg with
    | Name x q =>
     show PS1 ce X _ (if V2 e||isLC e then(match S.sto x with|some i=>Ji i (ev P n S e)|none=>stS) else stS)
     split
     ·rename_i h
      cases hv:S.sto x with
      | none=>exact JU
      | some i =>
       obtain⟨h1,h2,h3⟩:=G.sto hv
       rcases Za5 _ _▸h with h|h
       ·exact J08 G.nodup (ihe e) h1 h2 (Jda h) h3
       ·exact Jue G i h h1 h2 h3
     ·exact JU
    | Attribute o f q =>
     show PS1 ce X _ (if V2 e||isLC e then Jx2 P f (ev P n S o) (ev P n S e) else stS)
     split
     ·rename_i h
      have hw:Zdf e (Za (.Attribute o f q)) p.line X.env=pure Zk:=by
       rcases Za5 _ _▸h with h|h
       ·exact Jda h
       ·cases e<;>first|rfl|cases h
      unfold Jx2
      split
      ·rename_i hf
       exact J3b (ihe o) (ihe e) (G.pg.fld f hf) hw
      ·exact JU
     ·exact JU
    | _=>exact gen
  | _=>exact JU
end
structure D4 where
 st:Zdh
 qual:Str
 ps:List Str
 N:List Str
 dvs:List IV
def D4.sc (d:D4):Sc:=⟨d.N,(JQ d.st).names,Zh,d.qual⟩
structure Tab where
 fns:List (Str×D4)
 clss:List (Str×D4)
 meths:List (Str×List (Str×D4))
 cons:List (Str×IV)
 isas:List (Str×List Str)
 flds:List Str
 frees:List Str
 tabs:List Str:=[]
 razs:List Str:=[]
 xis:List (Str×List (Str×Bool)):=[]
 bass:List Str:=[]
 wrs:List (Str×D4):=[]
 nes:List Str:=[]
 xms:List (Str×D4):=[]
 xfs:List (Str×List Str):=[]
 xbs:List Str:=[]
def memS (x:Str):List Str->Bool
 | []=>Zk
 | y::r=>y==x||memS x r
def Qp {α:Type}(x:Str):List (Str×α)->Option α
 | []=>Zc
 | (y,a)::r=>if y==x then Za a else Qp x r
def xfOf (T:Tab)(f c:Str):Bool:=match Qp f T.xfs with|some l=>memS c l|none=>Zk
def mkPg (T:Tab)(r:D4->List IV->IH->Res IV):Pg where
 fn:=λ x=>(Qp x T.fns).map λ d=>⟨d.ps.length,d.dvs,r d⟩
 cls:=λ x=>(Qp x T.clss).map λ d=>⟨d.ps.length,d.dvs,r d⟩
 meth:=λ c m=>((Qp c T.meths).bind (Qp m)).map λ d=>⟨d.ps.length,d.dvs,r d⟩
 con:=λ x=>Qp x T.cons
 isa:=λ x=>(Qp x T.isas).map λ l c=>memS c l
 fld:=λ x=>memS x T.flds
 free:=λ x=>memS x T.frees
 tabs:=λ q=>ixOf q T.tabs
 rz:=λ x=>memS x T.razs
 xi:=λ D=>(Qp D T.xis).map λ l c=>Qp c l
 bas:=λ x=>memS x T.bass
 wr:=λ _=>Zc
 ne:=λ x=>memS x T.nes
 xo:=λ x=>(Qp x T.xms).map λ d=>⟨d.ps.length,d.dvs,r d⟩
 xf:=xfOf T
 xb:=λ x=>memS x T.xbs
def run (T:Tab):Nat->D4->List IV->IH->Res IV
 | 0,_=>λ _ _=>.stuck
 | k+1,d=>fnI d.N.length (sAll ((Qo d.st).map (ex (mkPg T (run T k)) 40 d.sc)))
theorem QC:∀{l:List (Str×α)},Qp x l=Za a->(x,a)∈l
 | [],h=>by cases h
 | (y,b)::r,h=>by
  unfold Qp at h
  split at h
  ·rename_i e
   cases h
   rw[beq_iff_eq.mp e]
   exact Z4
  ·exact Zn _ (QC h)
theorem Yr:∀{l:List Str},memS x l=Zh->x∈l
 | [],h=>by cases h
 | y::r,h=>by
  unfold memS at h
  rcases Za5 _ _▸h with e|e
  ·rw[beq_iff_eq.mp e]
   exact Z4
  ·exact Zn _ (Yr e)
structure DefOk (K:W.Frag)(x:Str)(d:D4)(fa:Zp)(fd:ZaH):Prop where
 fun_:∃dV,FunD K x d.qual d.st fa fd dV
 sc:FnScope d.N d.ps (JQ d.st)
 dv:∀j,j<=d.dvs.length->∃ds,Qi K fd d.ps ds/\ds.length=d.dvs.length-j/\∃vs,Vals vs ds/\∀ι H,RVs K ι H (d.dvs.drop j) vs
structure TabOk (ce:CeT)(T:Tab)(K:W.Frag)(mg:Str->Option Ze):Prop where
 fn:∀x d,(x,d)∈T.fns->∃fa fd,mg x=Za (.ref fa)/\DefOk K x d fa fd
 cls:∀x d,(x,d)∈T.clss->∃C fa fd,mg x=Za (.ref C)/\ce x=Za C/\Mk K C fa/\DefOk K "__init__" d fa fd
 meth:∀c l m d,(c,l)∈T.meths->(m,d)∈l->∃C fa fd,ce c=Za C/\Cls K C/\Meth K C m fa/\DefOk K m d fa fd
 con:∀x v,(x,v)∈T.cons->∃u y,mg x=Za u/\RelV y u/\∀ι H,RV K ι H v y
 isa:∀D l,(D,l)∈T.isas->∃c,mg D=Za c/\IsOk ce K c λ t=>match t with|.ins c=>Za (memS c l)|.exc _=>Zc|_=>Za Zk
 fld:∀f,f∈T.flds->XX ce K f
 free:∀x,x∈T.frees->mg x=Zc
 bas:∀x,x∈T.bass->∃C,mg x=Za (.ref C)/\BasK K C
 ne:∀c,c∈T.nes->∃C,ce c=Za C/\neIn K C=Zh/\ClsI K C/\W.kitOne K (.ref C) (.type "list")=Za Zk
section
variable {ce:CeT}{T:Tab}{prog:ZB}{w:Zab}{K:W.Frag}{mg:Str->Option Ze}{base:Zax}
theorem Joh {k:Nat}{fa:Zp}{fd:ZaH}{ps:List Str}:FnOk prog w K mg base (CXI prog w) k fa fd ps (spI ce K ps λ _ _=>.stuck) :=
 ⟨λ _ _ _ _ h=>h.1,λ _ _ _ _ _ _ _ _ _ _ _ _ _ h=>by obtain⟨_,_,_,_,_,_,z⟩:=h;exact z.elim⟩
theorem J21 (O:TabOk ce T K mg)(B:T.tabs≠[]->Qw mg base)(k:Nat)(hD:∀x d fa fd,DefOk K x d fa fd->FnD ce prog w K mg base (4*k) ⟨d.ps.length,d.dvs,run T k d⟩ fa fd d.ps):PgOk ce (4*k) (mkPg T (run T k)) prog w K mg base:=by
 refine⟨λ x f h=>?_,λ x f h=>?_,λ c m f h=>?_,λ x v h=>?_,λ D g h=>?_,λ f h=>?_,λ x h=>?_,λ q j h=>B λ e=>?_,λ x h=>O.bas x (Yr h),λ c h=>O.ne c (Yr h)⟩
 ·obtain⟨d,hd,rfl⟩:=ZF.mp h
  obtain⟨fa,fd,hm,ok⟩:=O.fn x d (QC hd)
  obtain⟨dV,F⟩:=ok.fun_
  exact⟨fa,fd,d.ps,hm,F.kp,hD x d fa fd ok⟩
 ·obtain⟨d,hd,rfl⟩:=ZF.mp h
  obtain⟨C,fa,fd,hm,hC,M,ok⟩:=O.cls x d (QC hd)
  exact⟨C,fa,fd,d.ps,hm,hC,M,hD _ d fa fd ok⟩
 ·obtain⟨d,hd,rfl⟩:=ZF.mp h
  obtain⟨l,hl,hd⟩:=Option.bind_eq_some_iff.mp hd
  obtain⟨C,fa,fd,hC,cl,me,ok⟩:=O.meth c l m d (QC hl) (QC hd)
  exact⟨C,fa,fd,d.ps,hC,cl,me,hD m d fa fd ok⟩
 ·exact O.con x v (QC h)
 ·obtain⟨l,hl,rfl⟩:=ZF.mp h
  exact O.isa D l (QC hl)
 ·exact O.fld f (Yr h)
 ·exact O.free x (Yr h)
 ·have h':ixOf q T.tabs=Za j:=h
  rw[e] at h'
  cases h'
theorem Jvc (O:TabOk ce T K mg)(B:T.tabs≠[]->Qw mg base):∀k x d fa fd,DefOk K x d fa fd->FnD ce prog w K mg base (4*k) ⟨d.ps.length,d.dvs,run T k d⟩ fa fd d.ps
 | 0,x,d,fa,fd,ok=>⟨rfl,Joh,ok.dv⟩
 | k+1,x,d,fa,fd,ok=>by
  refine⟨rfl,?_,ok.dv⟩
  obtain⟨dV,F⟩:=ok.fun_
  show FnOk prog w K mg base (CXI prog w) (4*k+3+1) fa fd d.ps (spI ce K d.ps (run T (k+1) d))
  refine F.fn (m:=sAll ((Qo d.st).map (ex (mkPg T (run T k)) 40 d.sc))) ok.sc λ cdv A outer s H E hcd hr=>?_
  refine XC (λ st=>Jnl ce (4*k) (mkPg T (run T k)) 40 d.sc _ st ?_) _
  exact⟨rfl,rfl,ok.sc.nd,ok.sc.kind,rfl,hr.mono (by omega),λ _ _=>rfl,J21 O B k (Jvc O B k),λ _=>⟨hcd,rfl⟩,λ _=>hr,λ _=>⟨rfl,rfl⟩⟩
end
inductive All {α:Type}(p:α->Prop):List α->Prop
 | nil:All p []
 | cons {a:α}{l:List α}:p a->All p l->All p (a::l)
theorem All.mem:∀{l:List α}{a:α},All p l->a∈l->p a
 | _,_,.nil,h=>by cases h
 | _,_,.cons h r,m=>by
  rcases Z7.mp m with rfl|m
  ·exact h
  ·exact r.mem m
def Ju7 (l:List Str):Ty->Option Bool:=λ t=>match t with|.ins c=>Za (memS c l)|.exc _=>Zc|_=>Za Zk
section
variable {T:Tab}{K:W.Frag}{mg:Str->Option Ze}
def ceOf (ces:List (Str×Zp)):CeT:=λ c=>Qp c ces
theorem J1g (ces:List (Str×Zp))(fn:All (λ p:Str×D4=>∃fa fd,mg p.1=Za (.ref fa)/\DefOk K p.1 p.2 fa fd) T.fns) 
  (cls:All (λ p:Str×D4=>∃C fa fd,mg p.1=Za (.ref C)/\ceOf ces p.1=Za C/\Mk K C fa/\DefOk K "__init__" p.2 fa fd) T.clss)
  (meth:All (λ q:Str×List (Str×D4)=>∃C,ceOf ces q.1=Za C/\All (λ p:Str×D4=>∃fa fd,Meth K C p.1 fa/\DefOk K p.1 p.2 fa fd) q.2) T.meths)
  (con:All (λ p:Str×IV=>∃u y,mg p.1=Za u/\RelV y u/\∀ι H,RV K ι H p.2 y) T.cons)
  (cl:All (λ p:Str×Zp=>ClsI K p.2/\All (λ f=>Q9 K p.2 f) T.flds) ces)
  (isa:All (λ q:Str×List Str=>∃D,mg q.1=Za (.ref D)/\W.kitOne K (.type "NoneType") (.ref D)=Za Zk/\W.kitOne K (.type "bool") (.ref D)=Za Zk/\W.kitOne K (.type "int") (.ref D)=Za Zk/\W.kitOne K (.type "str") (.ref D)=Za Zk /\
   W.kitOne K (.type "list") (.ref D)=Za Zk/\W.kitOne K (.type "tuple") (.ref D)=Za Zk/\W.kitOne K (.type "dict") (.ref D)=Za Zk/\All (λ p:Str×Zp=>W.kitOne K (.ref p.2) (.ref D)=Za (memS p.1 q.2)) ces) T.isas)
  (free:All (λ x=>mg x=Zc) T.frees)
  (bas:All (λ x=>∃C,mg x=Za (.ref C)/\BasK K C) T.bass:=by exact .nil)
  (nes:All (λ c=>∃C,ceOf ces c=Za C/\neIn K C=Zh/\W.kitOne K (.ref C) (.type "list")=Za Zk) T.nes:=by exact .nil):TabOk (ceOf ces) T K mg:=by
 refine⟨λ x d h=>fn.mem h,λ x d h=>cls.mem h,λ c l m d hc hm=>?_,λ x v h=>con.mem h,λ D l h=>?_,λ f hf=>?_,λ x h=>free.mem h,λ x h=>bas.mem h,λ c h=>let ⟨C,p,q,r⟩:=nes.mem h;⟨C,p,q,(cl.mem (QC p)).1,r⟩⟩
 ·obtain⟨C,hC,hl⟩:=meth.mem hc
  obtain⟨fa,fd,me,ok⟩:=hl.mem hm
  exact⟨C,fa,fd,hC,(cl.mem (QC hC)).1.cl,me,ok⟩
 ·obtain⟨C,hC,h1,h2,h3,h4,h5,h6,h7,h8⟩:=isa.mem h
  refine⟨_,hC,⟨λ b e=>?_,λ b e=>?_,λ b e=>?_,λ b e=>?_,λ b e=>?_,λ b e=>?_,λ b e=>?_,λ k C' b e hk=>?_,(λ k C' b e=>by cases e)⟩⟩
  ·cases e;exact h1
  ·cases e;exact h2
  ·cases e;exact h3
  ·cases e;exact h4
  ·cases e;exact h5
  ·cases e;exact h6
  ·cases e;exact h7
  ·cases e
   exact⟨(cl.mem (QC hk)).1,h8.mem (QC hk)⟩
 ·intro c C e
  obtain⟨h1,h2⟩:=cl.mem (QC e)
  exact⟨h1.cl,h2.mem hf⟩
theorem len1 {α:Type}{P:List α->Prop}(F0:∀a,P [a]):∀us:List α,us.length=1->P us
 | [a],_=>F0 a
theorem len2 {α:Type}{P:List α->Prop}(F0:∀a b,P [a,b]):∀us:List α,us.length=2->P us
 | [a,b],_=>F0 a b
theorem len3 {α:Type}{P:List α->Prop}(F0:∀a b c,P [a,b,c]):∀us:List α,us.length=3->P us
 | [a,b,c],_=>F0 a b c
theorem len4 {α:Type}{P:List α->Prop}(F0:∀a b c d,P [a,b,c,d]):∀us:List α,us.length=4->P us
 | [a,b,c,d],_=>F0 a b c d
theorem len5 {α:Type}{P:List α->Prop}(F0:∀a b c d e,P [a,b,c,d,e]):∀us:List α,us.length=5->P us
 | [a,b,c,d,e],_=>F0 a b c d e
theorem len6 {α:Type}{P:List α->Prop}(F0:∀a b c d e f,P [a,b,c,d,e,f]):∀us:List α,us.length=6->P us
 | [a,b,c,d,e,f],_=>F0 a b c d e f
theorem len7 {α:Type}{P:List α->Prop}(F0:∀a b c d e f g,P [a,b,c,d,e,f,g]):∀us:List α,us.length=7->P us
 | [a,b,c,d,e,f,g],_=>F0 a b c d e f g
theorem J3l:∀j:Nat,j<=3->j=0∨j=1∨j=2∨j=3:=by omega
theorem Jvb {x:Str}{d:D4}{fa:Zp}{oc kV doc pm cdv ct:Ze}{od an:Option Zp}{osl:Array (Option Ze)}(lk:K.lookup fa=Za ⟨oc,od,.func (W.fnOf x d.qual (QQ d.st) (Qo d.st) (JQ d.st) .none kV doc pm an cdv ct),osl⟩)
  (hc:W.codeIn K cdv d.qual=Zh)(hk:W.keepIn K (.ref fa)=Zh)(sc:FnScope d.N d.ps (JQ d.st))(hd:d.dvs=[])
  (hb:∀us:List Ze,us.length=d.ps.length->ZdZ (W.fnOf x d.qual (QQ d.st) (Qo d.st) (JQ d.st) .none kV doc pm an cdv ct) ⟨us,[]⟩=pure (d.ps.zip us)) :
  DefOk K x d fa (W.fnOf x d.qual (QQ d.st) (Qo d.st) (JQ d.st) .none kV doc pm an cdv ct) :=
 ⟨⟨_,⟨oc,od,kV,doc,pm,an,cdv,ct,osl,rfl,lk,hc⟩,hk⟩,sc,λ j hj=>⟨[],.all hb,by rw[hd];simp,[],.nil,by rw[hd];intro _ _;cases j<;>exact rfl⟩⟩
def scOk (N P:List Str)(sc:Zbm):Bool :=
 sc.kind==.function&&!sc.isCoroutine&&!sc.isGenerator&&decide N.Nodup&&decide (N.take P.length=P)&&P.all (λ x=>sc.names.lookup x==Za .local||sc.names.lookup x==Za .cell)&&sc.names.all (λ y=>!(y.2==.free))
theorem scOk.of (h:scOk N P sc=Zh):FnScope N P sc:=by
 simp only[scOk,Zr,beq_iff_eq,ZaO,decide_eq_true_eq,ZaW,Za5,beq_eq_false_iff_ne] at h
 obtain⟨⟨⟨⟨⟨⟨h1,h2⟩,h3⟩,h4⟩,h5⟩,h6⟩,h7⟩:=h
 exact⟨h1,h2,h3,h4,h5,h6,h7⟩
def FnB (x q:Str)(d:D4):Prop:=FnScope d.N d.ps (JQ d.st)/\d.dvs=[]/\d.qual=q/\∀(kV doc pm:Ze)(an:Option Zp)(cdv ct:Ze)(us:List Ze),us.length=d.ps.length->ZdZ (W.fnOf x d.qual (QQ d.st) (Qo d.st) (JQ d.st) .none kV doc pm an cdv ct) ⟨us,[]⟩=pure (d.ps.zip us)
section
variable {x q:Str}{d:D4}{h:Zax}{a C:Zp}{oc kV dc pm cd ct:Ze}{od an:Option Zp}{sl:Array (Option Ze)}
theorem Jq8 (B:FnB x q d)(hl:K.lookup a=Za ⟨oc,od,.func (W.fnOf x q (QQ d.st) (Qo d.st) (JQ d.st) .none kV dc pm an cd ct),sl⟩)(hc:W.codeIn K cd q=Zh)(hk:W.keepIn K (.ref a)=Zh):∃fd,DefOk K x d a fd:=by
 obtain⟨s,v,rfl,b⟩:=B
 exact⟨_,Jvb hl hc hk s v (b _ _ _ _ _ _)⟩
theorem J6 (X:K.In h)(G:h.Ns Z2 mg)(B:FnB x q d)(ha:W.nsIn K Z2 x=Za (Za (.ref a)):=by k_is)(hl:K.lookup a=Za ⟨oc,od,.func (W.fnOf x q (QQ d.st) (Qo d.st) (JQ d.st) .none kV dc pm an cd ct),sl⟩:=by k_is)(hc:W.codeIn K cd q=Zh:=by k_is)(hk:W.keepIn K (.ref a)=Zh:=by k_is):∃fa fd,mg x=Za (.ref fa)/\DefOk K x d fa fd :=
 let ⟨fd,D⟩:=Jq8 B hl hc hk
 ⟨a,fd,W.mg_of X G ha,D⟩
theorem Qd (B:FnB x q d)(ha:W.findIn K (.ref C) x=Za (Za (.ref a)):=by k_is)(hi:W.isFn K (.ref a)=Zh:=by k_is)(hl:K.lookup a=Za ⟨oc,od,.func (W.fnOf x q (QQ d.st) (Qo d.st) (JQ d.st) .none kV dc pm an cd ct),sl⟩:=by k_is)(hc:W.codeIn K cd q=Zh:=by k_is)(hk:W.keepIn K (.ref a)=Zh:=by k_is):∃fa fd,Meth K C x fa/\DefOk K x d fa fd :=
 let ⟨fd,D⟩:=Jq8 B hl hc hk
 ⟨a,fd,⟨ha,hi,hk⟩,D⟩
theorem Jtq (B:FnB "__init__" q d)(ha:W.findIn K (.ref C) "__init__"=Za (Za (.ref a)):=by k_is)(hi:W.isFn K (.ref a)=Zh:=by k_is)(hl:K.lookup a=Za ⟨oc,od,.func (W.fnOf "__init__" q (QQ d.st) (Qo d.st) (JQ d.st) .none kV dc pm an cd ct),sl⟩:=by k_is)(hc:W.codeIn K cd q=Zh:=by k_is)(hk:W.keepIn K (.ref a)=Zh:=by k_is)(hm:W.makesIn K C=Zh:=by k_is)(hq:W.keepIn K (.ref C)=Zh:=by k_is):∃fa fd,Mk K C fa/\DefOk K "__init__" d fa fd :=
 let ⟨fd,D⟩:=Jq8 B hl hc hk
 ⟨a,fd,⟨hm,ha,hi,hq⟩,D⟩
end
theorem Jxh {prog:ZB}{w:Zab}(O:TabOk ce T K mg)(B:T.tabs≠[]->Qw mg base)(k:Nat){d:D4}(hp:d.ps=[x])(ok:DefOk K "law" d fa fd) :
  FnOk prog w K mg base (CXI prog w) (4*k) fa fd [x] (XJ K x (run T k d)):=by
 have:=(Jvc (prog:=prog) (w:=w) (base:=base) O B k "law" d fa fd ok).ok
 rw[hp] at this
 exact Jsx this
end
def WR {α:Type}(r:Res α)(Q:α->IH->Prop):Prop:=match r with
 | .ok a h=>Q a h
 | _=>False
def WS (r:SRes)(N:ISt->IH->Prop)(R:IV->IH->Prop):Prop:=match r with
 | .next σ h=>N σ h
 | .ret v h=>R v h
 | _=>False
section
variable {α β:Type}{σ:ISt}{h:IH}{Q:α->IH->Prop}{N:ISt->IH->Prop}{R:IV->IH->Prop}
theorem WR.mono (x:WR r P)(f:∀a h,P a h->Q a h):WR r Q:=by
 cases r with
 | ok a h=>exact f a h x
 | exc n h=>exact x
 | stuck=>exact x
theorem Je (e:r=.ok a h)(q:Q a h):WR r Q:=by rw[e];exact q
theorem WR.eq (x:WR r Q):∃a h,r=.ok a h/\Q a h:=by
 cases r with
 | ok a h=>exact⟨a,h,rfl,x⟩
 | exc n h=>exact x.elim
 | stuck=>exact x.elim
theorem WS.mono (x:WS r N R)(f:∀σ h,N σ h->N' σ h)(g:∀v h,R v h->R' v h):WS r N' R':=by
 cases r with
 | next σ h=>exact f σ h x
 | ret v h=>exact g v h x
 | _=>exact x
theorem V6 (a:α):WR (.ok a h) Q=Q a h:=rfl
theorem Jr (r:Res α)(f:α->IH->Res β)(Q:β->IH->Prop):WR (r.bind f) Q=WR r λ a h=>WR (f a h) Q:=by cases r<;>rfl
theorem Ju0 (r:Res α):WR r.nx Q=WR r Q:=by cases r<;>rfl
theorem QZ (c:Prop)[Decidable c](x y:Res α):WR (if c then x else y) Q=((c->WR x Q)/\(¬c->WR y Q)):=by
 by_cases hc:c<;>simp[hc]
theorem Qu (r:Res α)(k:α->IH->SRes):WS (rS σ r k) N R=WR r λ a h=>WS (k a h) N R:=by cases r<;>rfl
theorem YF (r:SRes)(Q:IV->IH->Prop):WR r.fin Q=WS r (λ _ h=>Q .non h) Q:=by
 cases r with
 | exc n σ h=>show WR (match h[n]? with|some (.exc _ _)=>Res.exc n h|_=>Res.stuck) Q=False;split<;>rfl
 | _=>rfl
theorem Jj8 (σ:ISt):WS (.next σ h) N R=N σ h:=rfl
theorem Joa (v:IV):WS (.ret v h) N R=R v h:=rfl
theorem YX (a b:S1):WS (Jg a b σ h) N R=WS (a σ h) (λ σ1 h1=>WS (b σ1 h1) N R) R:=by
 unfold Jg;cases a σ h<;>rfl
theorem YW:WS (Js σ h) N R=N σ h:=rfl
theorem Jj9:WS (Jx3 σ h) N R=N σ h:=rfl
theorem YY (i:Nat)(e:E1):WS (Ji i e σ h) N R=WR (e σ h) λ v h1=>N (σ.set i (Za v)) h1:=by unfold Ji;rw[Qu];rfl
theorem YV (t:T1)(a b:S1):WS (sIf t a b σ h) N R=WR (t σ h) λ c h1=>(c=Zh->WS (a σ h1) N R)/\(c=Zk->WS (b σ h1) N R):=by
 unfold sIf;rw[Qu];congr 1;funext c h1;cases c<;>simp
theorem YZ (e:E1):WS (Jm e σ h) N R=WR (e σ h) R:=by unfold Jm;rw[Qu];rfl
theorem Jka:WS (Jx4 σ h) N R=R .non h:=rfl
theorem YU (e:E1):WS (JL e σ h) N R=WR (e σ h) λ _ h1=>N σ h1:=by unfold JL;rw[Qu];rfl
theorem Xl (e:E1)(g:G1):WS (sAsg e g σ h) N R=WR (e σ h) λ v h1=>WS (g v σ h1) N R:=by unfold sAsg;rw[Qu]
theorem Jn9 (i:Nat)(v:IV):WS (gNm i v σ h) N R=N (σ.set i (Za v)) h:=rfl
theorem J1o (n:Nat)(g:List IV->ISt->IH->SRes)(xs:List IV):WS (gTp n g (.tup xs) σ h) N R=(xs.length=n/\WS (g xs σ h) N R):=by
 unfold gTp
 by_cases hn:xs.length=n
 ·simp[hn]
 ·simp[hn,WS]
theorem J3n:WS (gN [] σ h) N R=N σ h:=rfl
theorem J3m (i:Nat)(r:List IV->ISt->IH->SRes)(v:IV)(vs:List IV):WS (gC (gNm i) r (v::vs) σ h) N R=WS (r vs (σ.set i (Za v)) h) N R:=rfl
theorem VS (f:Str)(o e:E1):WS (JM f o e σ h) N R=WR (e σ h) λ v h1=>WR (o σ h1) λ ov h2=>∃i c fs,ov=.ref i/\h2[i]?=Za (.ins c fs)/\fs.length<1000/\N σ (h2.set i (.ins c (putI f v fs))):=by
 unfold JM;rw[Qu];congr 1;funext v h1;rw[Qu];congr 1;funext ov h2
 cases ov with
 | ref i =>
  cases e:h2[i]? with
  | none=>simp[WS,e]
  | some o =>
   cases o with
   | ins c fs =>
    by_cases hl:fs.length<1000
    ·simp only[e,hl,if_true,WS]
     refine propext ⟨λ q=>⟨i,c,fs,rfl,e,hl,q⟩,λ ⟨i',c',fs',e1,e2,_,q⟩=>?_⟩
     cases e1
     rw[e] at e2
     cases e2
     exact q
    ·simp only[e,hl,if_false,WS]
     refine propext ⟨λ q=>q.elim,λ ⟨i',c',fs',e1,e2,hl',_⟩=>?_⟩
     cases e1
     rw[e] at e2
     cases e2
     exact hl hl'
   | _=>simp[WS,e]
 | _=>simp[WS]
theorem XS (it:I1)(g:G1)(b:S1):WS (sFor it g b σ h) N R=WR (it σ h) λ J h1=>WS (Qf J.chk g b J.xs σ h1) N R:=by unfold sFor;rw[Qu]
theorem Qh (v:IV)(Q:IV->IH->Prop):WR (eC v σ h) Q=Q v h:=rfl
theorem Vn (f:IV->IV->IH->Res IV)(a b:E1)(Q:IV->IH->Prop):WR (Jc f a b σ h) Q=WR (a σ h) λ x h1=>WR (b σ h1) λ y h2=>WR (f x y h2) Q:=by
 unfold Jc;rw[Jr];congr 1;funext x h1;rw[Jr]
theorem Ju4 (f:IV->IH->Res IV)(a:E1)(Q:IV->IH->Prop):WR (eUn f a σ h) Q=WR (a σ h) λ x h1=>WR (f x h1) Q:=by unfold eUn;rw[Jr]
theorem Jnv (a b:E1)(tr:IV->IH->Res Bool)(Q:IV->IH->Prop):WR (eAnd a b tr σ h) Q=WR (a σ h) λ x h1=>WR (tr x h1) λ c h2=>(c=Zh->WR (b σ h2) Q)/\(c=Zk->Q x h2):=by
 unfold eAnd;rw[Jr];congr 1;funext x h1;rw[Jr];congr 1;funext c h2;cases c<;>simp[WR]
theorem Ju1 (a b:E1)(tr:IV->IH->Res Bool)(Q:IV->IH->Prop):WR (eOr a b tr σ h) Q=WR (a σ h) λ x h1=>WR (tr x h1) λ c h2=>(c=Zh->Q x h2)/\(c=Zk->WR (b σ h2) Q):=by
 unfold eOr;rw[Jr];congr 1;funext x h1;rw[Jr];congr 1;funext c h2;cases c<;>simp[WR]
theorem YH (t:T1)(a b:E1)(Q:IV->IH->Prop):WR (eIf t a b σ h) Q=WR (t σ h) λ c h1=>(c=Zh->WR (a σ h1) Q)/\(c=Zk->WR (b σ h1) Q):=by
 unfold eIf;rw[Jr];congr 1;funext c h1;cases c<;>simp
theorem YS (a b:T1)(Q:Bool->IH->Prop):WR (QK a b σ h) Q=WR (a σ h) λ c h1=>(c=Zh->WR (b σ h1) Q)/\(c=Zk->Q Zk h1):=by
 unfold QK;rw[Jr];congr 1;funext c h1;cases c<;>simp[WR]
theorem Jn8 (a b:T1)(Q:Bool->IH->Prop):WR (tOrI a b σ h) Q=WR (a σ h) λ c h1=>(c=Zh->Q Zh h1)/\(c=Zk->WR (b σ h1) Q):=by
 unfold tOrI;rw[Jr];congr 1;funext c h1;cases c<;>simp[WR]
theorem Jj5 (a:T1)(Q:Bool->IH->Prop):WR (JD a σ h) Q=WR (a σ h) λ c h1=>Q (!c) h1:=by unfold JD;rw[Jr];rfl
theorem Jj6 (tr:IV->IH->Res Bool)(a:E1)(Q:Bool->IH->Prop):WR (Jh tr a σ h) Q=WR (a σ h) λ x h1=>WR (tr x h1) Q:=by unfold Jh;rw[Jr]
theorem YC (f g:IV->IV->IH->Res IV)(a b c:E1)(Q:IV->IH->Prop):WR (JT f g a b c σ h) Q=WR (a σ h) λ x h1=>WR (b σ h1) λ y h2=>WR (f x y h2) λ k h3=>∃t,k=.bl t/\(t=Zh->WR (c σ h3) λ z h4=>WR (g y z h4) Q)/\(t=Zk->Q (.bl Zk) h3):=by
 unfold JT;rw[Jr];congr 1;funext x h1;rw[Jr];congr 1;funext y h2;rw[Jr];congr 1;funext k h3
 cases k with
 | bl t =>
  cases t with
  | true =>
   show WR ((c σ h3).bind λ z h4=>g y z h4) Q=_
   rw[Jr]
   simp
  | false=>simp[WR]
 | _=>simp[WR]
theorem Jj3 (Q:List IV->IH->Prop):WR (Jd σ h) Q=Q [] h:=rfl
theorem Jgg (a:E1)(r:A1)(Q:List IV->IH->Prop):WR (Jb a r σ h) Q=WR (a σ h) λ x h1=>WR (r σ h1) λ xs h2=>Q (x::xs) h2:=by
 unfold Jb;rw[Jr];congr 1;funext x h1;rw[Jr];rfl
theorem YT (a:A1)(Q:IV->IH->Prop):WR (JA a σ h) Q=WR (a σ h) λ xs h1=>xs.length<=sizeLine/\Q (.tup xs) h1:=by
 unfold JA;rw[Jr];congr 1;funext xs h1;rw[QZ]
 by_cases hz:xs.length<=sizeLine<;>simp[hz,WR]
theorem YM (a:A1)(Q:IV->IH->Prop):WR (J0 a σ h) Q=WR (a σ h) λ xs h1=>xs.length<=sizeLine/\Q (.ref h1.length) (h1++[.lst xs]):=by
 unfold J0;rw[Jr];congr 1;funext xs h1;rw[QZ]
 by_cases hz:xs.length<=sizeLine<;>simp[hz,WR]
theorem Jj4 (f:List IV->IH->Res IV)(d:List IV)(a:A1)(Q:IV->IH->Prop):WR (Jn f d a σ h) Q=WR (a σ h) λ vs h1=>WR (f (vs++d) h1) Q:=by
 unfold Jn;rw[Jr]
theorem VR (c:Str)(f:List IV->IH->Res IV)(d:List IV)(a:A1)(Q:IV->IH->Prop):WR (QR c f d a σ h) Q=WR (a σ h) λ vs h1=>WR (f (.ref h1.length::(vs++d)) (h1++[.ins c []])) λ r h2=>r=.non/\Q (.ref h1.length) h2:=by
 unfold QR;rw[Jr];congr 1;funext vs h1;rw[Jr];congr 1;funext r h2;cases r<;>simp[WR]
theorem Juq (f:List IV->IH->Res IV)(a:A1)(Q:IV->IH->Prop):WR (eCB f a σ h) Q=WR (a σ h) λ vs h1=>WR (f vs h1) Q:=by unfold eCB;rw[Jr]
theorem Xj (f:IV->IH->Res IV)(x:IV)(Q:IV->IH->Prop):WR (on1 f [x] h) Q=WR (f x h) Q:=rfl
theorem Jnz (ans:Ty->Option Bool)(e:E1)(Q:IV->IH->Prop):WR (eIsi ans e σ h) Q=WR (e σ h) λ v h1=>∃b,(tyI v h1).bind ans=Za b/\Q (.bl b) h1:=by
 unfold eIsi;rw[Jr];congr 1;funext v h1
 cases (tyI v h1).bind ans<;>simp[WR]
theorem Jgi (Q:Option Int->IH->Prop):WR (QU σ h) Q=Q Zc h:=rfl
theorem Jgj (e:E1)(Q:Option Int->IH->Prop):WR (Qg e σ h) Q=WR (e σ h) λ v h1=>∃i,v=.int i/\Q (Za i) h1:=by
 unfold Qg;rw[Jr];congr 1;funext v h1;cases v<;>simp[WR]
theorem V8 (f:IV->Option Int->Option Int->IH->Res IV)(e:E1)(lo hi:O1)(Q:IV->IH->Prop):WR (eSl f e lo hi σ h) Q=WR (e σ h) λ x h1=>WR (lo σ h1) λ l h2=>WR (hi σ h2) λ u h3=>WR (f x l u h3) Q:=by
 unfold eSl;rw[Jr];congr 1;funext x h1;rw[Jr];congr 1;funext l h2;rw[Jr]
def VF (f:Str)(v:IV)(h:IH):Option IV:=match v with
 | .ref i=>(match h[i]? with
  | some (.ins _ fs)=>fs.lookup f
  | _=>Zc)
 | _=>Zc
theorem YG (f:Str)(o:E1)(Q:IV->IH->Prop):WR (Jp f o σ h) Q=WR (o σ h) λ v h1=>∃x,VF f v h1=Za x/\Q x h1:=by
 unfold Jp;rw[Jr];congr 1;funext v h1
 cases v with
 | ref i =>
  unfold VF
  cases e:h1[i]? with
  | none=>simp[WR,e]
  | some ob =>
   cases ob with
   | ins c fs=>cases e2:fs.lookup f<;>simp[WR,e,e2]
   | _=>simp[WR,e]
 | _=>simp[WR,VF]
variable {i j:Int}{x y:Str}{P:IV->IH->Prop}
theorem YA (i j:Int):WR (Jl (.int i) (.int j) h) P=P (.int (i+j)) h:=rfl
theorem Jn7 (i j:Int):WR (Qe (.int i) (.int j) h) P=P (.int (i-j)) h:=rfl
theorem Jn3 (i:Int):WR (Yw (.int i) h) P=P (.int (-i)) h:=rfl
theorem YO (i j:Int):WR (Qs (.int i) (.int j) h) P=(Vb i j/\P (.int (i*j)) h):=by
 show WR (X5 (.int i) (.int j) h) P=_
 unfold X5;rw[QZ];by_cases hm:Vb i j<;>simp[hm,WR]
theorem YE (i j:Int):WR (JO (.int i) (.int j) h) P=((0<j/\j.natAbs.log2<9000)/\P (.int (i/j)) h):=by
 unfold JO;rw[QZ];by_cases hm:0<j/\j.natAbs.log2<9000<;>simp[hm,WR]
theorem YN (i j:Int):WR (Jv (.int i) (.int j) h) P=(0<j/\P (.int (i%j)) h):=by
 unfold Jv;rw[QZ];by_cases hm:0<j<;>simp[hm,WR]
theorem V7 (i j:Int):WR (JE (.int i) (.int j) h) P=((0<=j/\j<=1000000/\i.natAbs<2^64)/\P (.int (i^j.toNat)) h):=by
 unfold JE;rw[QZ];by_cases hm:0<=j/\j<=1000000/\i.natAbs<2^64<;>simp[hm,WR]
theorem YB (x y:Str):WR (Jl (.str x) (.str y) h) P=(x.length+y.length<=sizeLine/\P (.str (x++y)) h):=by
 unfold Jl;rw[QZ];by_cases hm:x.length+y.length<=sizeLine<;>simp[hm,WR]
theorem Juy (i j:Int):WR (cLt (.int i) (.int j) h) P=P (.bl (decide (i<j))) h:=rfl
theorem Juw (i j:Int):WR (cLe (.int i) (.int j) h) P=P (.bl (decide (i<=j))) h:=rfl
theorem J1n (x y:Str):WR (cLe (.str x) (.str y) h) P=P (.bl (!decide (y.cps.toList<x.cps.toList))) h:=rfl
theorem Juu (i j:Int):WR (cGt (.int i) (.int j) h) P=P (.bl (decide (j<i))) h:=rfl
theorem Jut (i j:Int):WR (cGe (.int i) (.int j) h) P=P (.bl (decide (j<=i))) h:=rfl
theorem Jus (i j:Int):WR (cEq (.int i) (.int j) h) P=P (.bl (decide (i=j))) h:=rfl
theorem Juz (i j:Int):WR (cNe (.int i) (.int j) h) P=P (.bl (!decide (i=j))) h:=rfl
theorem Jny (x y:Str):WR (cEq (.str x) (.str y) h) P=P (.bl (decide (x=y))) h:=rfl
theorem Jn4 (x y:Str):WR (cNe (.str x) (.str y) h) P=P (.bl (!decide (x=y))) h:=rfl
theorem Jnw (b:Bool)(P:Bool->IH->Prop):WR (asB (.bl b) h) P=P b h:=rfl
theorem Jj7 (b:Bool)(P:Bool->IH->Prop):WR (tru (.bl b) h) P=P b h:=rfl
theorem Jn5 (tr:IV->IH->Res Bool)(v:IV):WR (X6 tr v h) P=WR (tr v h) λ c h1=>P (.bl (!c)) h1:=by unfold X6;rw[Jr];rfl
theorem J1m (v w:IV):WR (cIs v w h) P=∃b,isI v w=Za b/\P (.bl b) h:=by unfold cIs;cases isI v w<;>simp[WR]
theorem Qv {chk:IH->Prop}{g:G1}{b:S1}(I:Nat->ISt->IH->Prop){xs:List IV}(hc:∀i σ h,I i σ h->chk h) 
  (turn:∀i (hi:i<xs.length) σ h,I i σ h->WS (g xs[i] σ h) (λ σ1 h1=>WS (b σ1 h1) (I (i+1)) R) λ _ _=>False)(done:∀σ h,I xs.length σ h->N σ h)(start:I 0 σ h):WS (Qf chk g b xs σ h) N R:=by
 have key:∀(n i:Nat)(σ:ISt)(h:IH),xs.length-i=n->i<=xs.length->I i σ h->WS (Qf chk g b (xs.drop i) σ h) N R:=by
  intro n
  induction n with
  | zero =>
   intro i σ h hn hi hI
   have:i=xs.length:=by omega
   subst this
   rw[ZdC]
   unfold Qf
   rw[if_pos (hc _ _ _ hI)]
   exact done _ _ hI
  | succ n ih =>
   intro i σ h hn hi hI
   have hlt:i<xs.length:=by omega
   rw[Za2 hlt]
   unfold Qf
   rw[if_pos (hc _ _ _ hI)]
   have t:=turn i hlt σ h hI
   cases eg:g xs[i] σ h with
   | next σ1 h1 =>
    rw[eg] at t
    have t':WS (b σ1 h1) (I (i+1)) R:=t
    dsimp only
    cases eb:b σ1 h1 with
    | next σ2 h2=>rw[eb] at t';exact ih (i+1) σ2 h2 (by omega) hlt t'
    | ret v h2=>rw[eb] at t';exact t'
    | brk σ2 h2=>rw[eb] at t';exact t'.elim
    | cont σ2 h2=>rw[eb] at t';exact t'.elim
    | exc m σ2 h2=>rw[eb] at t';exact t'.elim
    | stuck=>rw[eb] at t';exact t'.elim
   | ret v h1=>rw[eg] at t;exact t.elim
   | brk σ2 h2=>rw[eg] at t;exact t.elim
   | cont σ2 h2=>rw[eg] at t;exact t.elim
   | exc m σ2 h2=>rw[eg] at t;exact t.elim
   | stuck=>rw[eg] at t;exact t.elim
 have:=key xs.length 0 σ h (by omega) (ZY _) start
 simpa using this
end
section
variable {α:Type}{h h1:IH}{a:α}{r:Res α}{P:IV->IH->Prop}
theorem Ju (x:WR r λ v h'=>v=a/\h'=h1):r=.ok a h1:=by
 obtain⟨_,_,e,rfl,rfl⟩:=x.eq
 exact e
theorem Xh (xs:List IV)(n:Int):WR (Jf (.tup xs) (.int n) h) P=∃x,atI xs n=Za x/\P x h:=by
 unfold Jf;cases e:atI xs n<;>simp[WR,e]
theorem YI (xs:List IV)(n:Int):WR (Jf (.rol xs) (.int n) h) P=∃x,atI xs n=Za x/\P x h:=by
 unfold Jf;cases e:atI xs n<;>simp[WR,e]
theorem Jsc (i:Nat)(n:Int):WR (Jf (.ref i) (.int n) h) P=∃xs,h[i]?=Za (.lst xs)/\∃x,atI xs n=Za x/\P x h:=by
 unfold Jf
 cases e:h[i]? with
 | none=>simp[WR,e]
 | some o =>
  cases o with
  | lst xs=>cases e2:atI xs n<;>simp[WR,e,e2]
  | _=>simp[WR,e]
theorem YL (xs:List IV):WR (lenI (.tup xs) h) P=P (.int xs.length) h:=rfl
theorem YJ (xs:List IV):WR (lenI (.rol xs) h) P=P (.int xs.length) h:=rfl
theorem Jmx (i:Nat):WR (lenI (.ref i) h) P=∃xs,h[i]?=Za (.lst xs)/\P (.int xs.length) h:=by
 unfold lenI
 cases e:h[i]? with
 | none=>simp[WR,e]
 | some o=>cases o<;>simp[WR,e]
theorem YK (x:Str):WR (lenI (.str x) h) P=(x.length<=sizeLine/\P (.int x.length) h):=by
 unfold lenI;rw[QZ];by_cases hm:x.length<=sizeLine<;>simp[hm,WR]
theorem JI {xs:List α}{n:Nat}(e:xs[n]?=Za x):atI xs (n:Int)=Za x:=by
 have hn:n<xs.length:=(Zo.mp e).1
 have:(n:Int)<xs.length:=by omega
 simp[atI,ixN,this,e]
theorem JP:atI (x::xs) 0=Za x:=by simp[atI,ixN]
theorem JX {x y:α}{xs:List α}:atI (x::y::xs) 1=Za y:=JI (n:=1) rfl
theorem Qm {x y z:α}{xs:List α}:atI (x::y::z::xs) 2=Za z:=JI (n:=2) rfl
theorem Qy {x y z u:α}{xs:List α}:atI (x::y::z::u::xs) 3=Za u:=JI (n:=3) rfl
theorem Vf {x y z u v:α}{xs:List α}:atI (x::y::z::u::v::xs) 4=Za v:=JI (n:=4) rfl
theorem Jlz {xs:List α}{n:Int}(h0:0<=n)(e:xs[n.toNat]?=Za x):atI xs n=Za x:=by
 have:=JI e
 rwa [Int.toNat_of_nonneg h0] at this
theorem Y3 (i:Int):tyI (.int i) h=Za .int:=rfl
theorem Y7 (x:Str):tyI (.str x) h=Za .str:=rfl
theorem Y8 (xs:List IV):tyI (.tup xs) h=Za .tup:=rfl
theorem Y4 (b:Bool):tyI (.bl b) h=Za .bl:=rfl
theorem Y5:tyI .non h=Za .non:=rfl
theorem Y6 (xs:List IV):tyI (.rol xs) h=Za .lst:=rfl
theorem Jv7 (e:h[i]?=Za (.lst xs)):tyI (.ref i) h=Za .lst:=by simp[tyI,e]
theorem grow {i:Nat}(e:h[i]?=Za o):(h++g)[i]?=Za o:=by
 rw[ZE (Zo.mp e).1];exact e
theorem Jk:(h++[o])[h.length]?=Za o:=by simp
theorem JB (e:h[i]?=Za o):i<h.length:=(Zo.mp e).1
theorem Jki (f:IV->Bool):∀xs:List IV,VV (xs.map λ x=>.bl (f x))=Za (xs.map f)
 | []=>rfl
 | x::xs=>by simp[VV,Jki f xs]
theorem all_map {xs:List IV}(e:h[i]?=Za (.lst (xs.map λ x=>.bl (f x)))):allI (.ref i) h=.ok (.bl (xs.all f)) h:=by
 simp[allI,e,Jki,List.all_map,Function.comp_def]
end
def Ex (h h':IH):Prop:=∃g,h'=h++g
theorem Ex.refl (h:IH):Ex h h:=⟨[],by simp⟩
theorem Ex.trans (a:Ex h h1)(b:Ex h1 h2):Ex h h2:=by
 obtain⟨g,rfl⟩:=a
 obtain⟨g',rfl⟩:=b
 exact⟨g++g',by simp⟩
theorem Ex.get (a:Ex h h'){i:Nat}(e:h[i]?=Za o):h'[i]?=Za o:=by
 obtain⟨g,rfl⟩:=a
 exact grow e
theorem Ex.one (h:IH)(o:IX):Ex h (h++[o]):=⟨[o],rfl⟩
theorem Ex.len (a:Ex h h'):h.length<=h'.length:=by
 obtain⟨g,rfl⟩:=a
 simp
section
variable {α:Type}{h:IH}
theorem Jwt {chk:IH->Prop}{t:T1}{e:E1}{caps:ISt}{p:IV->Bool}{f:IV->IV}(i0:Nat):∀{xs acc:List IV}{o:Option IV}{h1:IH},h1[i0]?=Za (.lst acc)->(∀h2,(∀j ob,j≠i0->h1[j]?=Za ob->h2[j]?=Za ob)->chk h2)->acc.length+xs.length<sizeLine ->
  (∀x∈xs,∀h2,(∀j ob,j≠i0->h1[j]?=Za ob->h2[j]?=Za ob)->WR (t (Za x::caps) h2) λ b h3=>b=p x/\Ex h2 h3) ->
  (∀x∈xs,p x=Zh->∀h2,(∀j ob,j≠i0->h1[j]?=Za ob->h2[j]?=Za ob)->WR (e (Za x::caps) h2) λ v h3=>v=f x/\Ex h2 h3) ->
  WR (JK chk (gNm 0) t e i0 xs (o::caps) h1) λ v h3=>v=.ref i0/\∃g,h3=h1.set i0 (.lst (acc++(xs.filter p).map f))++g
 | [],acc,o,h1,hi,hc,_,_,_=>by
  unfold JK
  rw[if_pos (hc h1 λ _ _ _ q=>q)]
  refine⟨rfl,[],?_⟩
  simp only[List.filter_nil,Zba,Za4]
  refine(Zce λ j=>?_)
  by_cases hj:j=i0
  ·subst hj
   rw[hi,ZK (JB hi)]
  ·rw[ZG (ZI hj)]
 | x::xs,acc,o,h1,hi,hc,hl,ht,he=>by
  unfold JK
  rw[if_pos (hc h1 λ _ _ _ q=>q)]
  dsimp only[gNm,Zbw]
  have hl':acc.length+xs.length+1<sizeLine:=by simpa [Zer] using hl
  obtain⟨b,h2,e1,rfl,x2⟩:=(ht x Z4 h1 λ _ _ _ q=>q).eq
  rw[e1]
  have k12:∀j ob,j≠i0->h1[j]?=Za ob->h2[j]?=Za ob:=λ j ob _ q=>x2.get q
  cases hp:p x with
  | false =>
   dsimp only
   refine WR.mono (Jwt i0 (x2.get hi) (λ h3 q=>hc h3 λ j ob n r=>q j ob n (k12 j ob n r)) (by omega) (λ y hy h3 q=>ht y (Zn _ hy) h3 λ j ob n r=>q j ob n (k12 j ob n r))
    λ y hy hpy h3 q=>he y (Zn _ hy) hpy h3 λ j ob n r=>q j ob n (k12 j ob n r)) λ v h3 ⟨ev,g,eg⟩=>⟨ev,?_⟩
   obtain⟨g2,rfl⟩:=x2
   refine⟨g2++g,?_⟩
   rw[eg,Za1 (h:=JB hi)]
   simp[hp]
  | true =>
   dsimp only
   obtain⟨v,h3,e3,rfl,x3⟩:=(he x Z4 hp h2 k12).eq
   rw[e3]
   dsimp only
   rw[x3.get (x2.get hi)]
   dsimp only
   rw[if_pos (by omega)]
   have k13:∀j ob,j≠i0->h1[j]?=Za ob->(h3.set i0 (.lst (acc++[f x])))[j]?=Za ob:=λ j ob n q=>by
    rw[ZG (ZI n)]
    exact x3.get (x2.get q)
   refine WR.mono (Jwt i0 (acc:=acc++[f x]) (by rw[ZK (JB (x3.get (x2.get hi)))]) (λ h4 q=>hc h4 λ j ob n r=>q j ob n (k13 j ob n r)) (by simp;omega) (λ y hy h4 q=>ht y (Zn _ hy) h4 λ j ob n r=>q j ob n (k13 j ob n r))
    λ y hy hpy h4 q=>he y (Zn _ hy) hpy h4 λ j ob n r=>q j ob n (k13 j ob n r)) λ v h4 ⟨ev,g,eg⟩=>⟨ev,?_⟩
   obtain⟨g3,q3⟩:=x2.trans x3
   refine⟨g3++g,?_⟩
   rw[eg,q3,Za1 (h:=JB hi),Za1 (h:=by rw[Zbt];exact JB hi),ZdS]
   simp[hp]
theorem YD {t:T1}{e:E1}{js:List Nat}{p:IV->Bool}{f:IV->IV}(hit:WR (it σ h0) λ J h1=>J.xs=xs/\J.chk=chk/\h1=h)(hl:xs.length<sizeLine) 
  (hc:∀h2:IH,(∀(j:Nat)(ob:IX),h[j]?=Za ob->h2[j]?=Za ob)->chk h2)
  (ht:∀x∈xs,∀h2:IH,(∀(j:Nat)(ob:IX),h[j]?=Za ob->h2[j]?=Za ob)->WR (t (Za x::js.map λ j=>(σ[j]?).join) h2) λ b h3=>b=p x/\Ex h2 h3)
  (he:∀x∈xs,p x=Zh->∀h2:IH,(∀(j:Nat)(ob:IX),h[j]?=Za ob->h2[j]?=Za ob)->WR (e (Za x::js.map λ j=>(σ[j]?).join) h2) λ v h3=>v=f x/\Ex h2 h3) :
  WR (Jz it 1 js (gNm 0) t e σ h0) λ v h3=>v=.ref h.length/\∃g,h3=h++.lst ((xs.filter p).map f)::g:=by
 obtain⟨J,h1,e1,q1,q2,rfl⟩:=hit.eq
 unfold Jz
 rw[e1]
 show WR (JK J.chk (gNm 0) t e h1.length J.xs (Zc::js.map λ j=>(σ[j]?).join) (h1++[.lst []])) _
 rw[q1,q2]
 have lift:∀{h2:IH},(∀j ob,j≠h1.length->(h1++[IX.lst []])[j]?=Za ob->h2[j]?=Za ob)->∀j ob,h1[j]?=Za ob->h2[j]?=Za ob:=λ q j ob r=>q j ob (Z8 (JB r)) (grow r)
 refine WR.mono (Jwt (p:=p) (f:=f) h1.length (acc:=[]) Jk (λ h2 q=>hc h2 (lift q)) (by simpa using hl) (λ x hx h2 q=>ht x hx h2 (lift q)) λ x hx hp h2 q=>he x hx hp h2 (lift q)) λ v h3 ⟨ev,g,eg⟩=>⟨ev,g,?_⟩
 rw[eg]
 simp
theorem filt {α:Type}(xs:List α):xs.filter (λ _=>Zh)=xs:=List.filter_eq_self.mpr (by simp)
theorem Ql {e:E1}{js:List Nat}{f:IV->IV}(hit:WR (it σ h0) λ J h1=>J.xs=xs/\J.chk=chk/\h1=h)(hl:xs.length<sizeLine) 
  (hc:∀h2:IH,(∀(j:Nat)(ob:IX),h[j]?=Za ob->h2[j]?=Za ob)->chk h2)
  (he:∀x∈xs,∀h2:IH,(∀(j:Nat)(ob:IX),h[j]?=Za ob->h2[j]?=Za ob)->WR (e (Za x::js.map λ j=>(σ[j]?).join) h2) λ v h3=>v=f x/\Ex h2 h3) :
  WR (Jz it 1 js (gNm 0) JC e σ h0) λ v h3=>v=.ref h.length/\∃g,h3=h++.lst (xs.map f)::g:=by
 have:=YD (p:=λ _=>Zh) (f:=f) (t:=JC) (e:=e) (js:=js) (σ:=σ) (h:=h) hit hl hc (λ _ _ h2 _=>⟨rfl,.refl _⟩) λ x hx _ h2 q=>he x hx h2 q
 rwa [filt] at this
theorem J4 {g:IH}:(h++o::g)[h.length]?=Za o:=by simp
theorem Ex.cons (h:IH)(o:IX)(g:IH):Ex h (h++o::g):=⟨_,rfl⟩
end
section
variable {σ:ISt}{h h1:IH}{Q:IV->IH->Prop}{J:ItI->IH->Prop}
theorem JW (e:E1):WR (Jw e σ h) J=WR (e σ h) λ v h1=>WR (Xx v h1) J:=by unfold Jw;rw[Jr]
theorem V5 (f:List IV->IH->Res ItI)(a:A1):WR (iRg f a σ h) J=WR (a σ h) λ vs h1=>WR (f vs h1) J:=by unfold iRg;rw[Jr]
theorem JN (i:Nat):WR (Xx (.ref i) h) J=∃xs,h[i]?=Za (.lst xs)/\J ⟨xs,λ h'=>h'[i]?=Za (.lst xs)⟩ h:=by
 show WR (itOf (.ref i) h) J=_
 unfold itOf
 cases e:h[i]? with
 | none=>simp[WR,e]
 | some o=>cases o<;>simp[WR,e]
theorem Jn0 (xs:List IV):WR (Xx (.rol xs) h) J=J ⟨xs,λ _=>True⟩ h:=rfl
theorem Jn2 (xs:List IV):WR (Xx (.tup xs) h) J=J ⟨xs,λ _=>True⟩ h:=rfl
theorem Jn1 (x:Str):WR (Xx (.str x) h) J=J ⟨Vl x,λ _=>True⟩ h:=rfl
theorem Jr8 (i:Nat):WR (QS [.ref i] h) J=∃xs,h[i]?=Za (.lst xs)/\J ⟨Q2 0 xs,λ h'=>h'[i]?=Za (.lst xs)⟩ h:=by
 show WR (QS [.ref i] h) J=_
 unfold QS
 cases e:h[i]? with
 | none=>simp[WR,e]
 | some o=>cases o<;>simp[WR,e]
theorem Xk (j:Int):WR (Q3 [.int j] h) J=((-(2^62)<=j/\j<2^62)/\J ⟨rngI 0 j,λ _=>True⟩ h):=by
 unfold Q3;rw[QZ];exact propext ⟨λ ⟨a,b⟩=>(Classical.em _).elim (λ q=>⟨q,a q⟩) λ q=>(b q).elim,λ ⟨a,b⟩=>⟨λ _=>b,λ q=>absurd a q⟩⟩
theorem YQ (i j:Int):WR (VI [.int i,.int j] h) J=((-(2^62)<=i/\i<2^62/\ -(2^62)<=j/\j<2^62)/\J ⟨rngI i j,λ _=>True⟩ h):=by
 unfold VI;rw[QZ];exact propext ⟨λ ⟨a,b⟩=>(Classical.em _).elim (λ q=>⟨q,a q⟩) λ q=>(b q).elim,λ ⟨a,b⟩=>⟨λ _=>b,λ q=>absurd a q⟩⟩
theorem Qj (i j:Int):(rngI i j).length=(j-i).toNat:=by simp[rngI]
theorem V3 (i j:Int)(n:Nat)(hn:n<(rngI i j).length):(rngI i j)[n]=.int (i+n):=by simp[rngI]
theorem Jqc (xs:List IV)(n:Nat)(hn:n<(Q2 0 xs).length):(Q2 0 xs)[n]=.tup [.int n,xs[n]'(by rwa [Xv] at hn)]:=by
 have:=Jg7 xs 0 n
 rw[Zb hn,Zb (by rwa [Xv] at hn)] at this
 simpa using this
theorem YR (i:Nat)(lo hi:Option Int):WR (slI (.ref i) lo hi h) Q=∃xs,h[i]?=Za (.lst xs)/\Q (.ref h.length) (h++[.lst (cutI xs lo hi)]):=by
 unfold slI
 cases e:h[i]? with
 | none=>simp[WR,e]
 | some o=>cases o<;>simp[WR,e]
theorem Jn6 (xs:List IV)(lo hi:Option Int):WR (slI (.rol xs) lo hi h) Q=Q (.ref h.length) (h++[.lst (cutI xs lo hi)]):=rfl
theorem Jnj (n d:Nat):HT.sIx n d Zc=d:=HT.sIx_none n d
theorem Ji5 (xs:List α)(n:Nat):cutI xs Zc (Za (n:Int))=xs.take n:=by
 unfold cutI
 rw[Jnj,HT.sIx_nat]
 simp
theorem Ji4 (xs:List α)(n:Nat):cutI xs (Za (n:Int)) Zc=xs.drop n:=by
 unfold cutI
 rw[Jnj,HT.sIx_nat]
 by_cases hn:n<=xs.length
 ·rw[Nat.min_eq_left hn]
  exact Zbb (by simp)
 ·rw[Nat.min_eq_right (by omega),ZdC,ZcC (by omega)]
  simp
theorem Jwu (xs:List α)(n m:Nat):cutI xs (Za (n:Int)) (Za (m:Int))=(xs.take m).drop n:=by
 unfold cutI
 rw[HT.sIx_nat,HT.sIx_nat]
 refine Zce λ i=>?_
 simp only[List.getElem?_take,List.getElem?_drop]
 by_cases h1:n+i<xs.length
 ·rw[Nat.min_eq_left (show n<=xs.length by omega)]
  by_cases h3:n+i<m
  ·rw[if_pos h3,if_pos (by omega)]
  ·rw[if_neg h3,if_neg (by omega)]
 ·rw[show xs[n+i]?=Zc from Zbk (by omega),show xs[min n xs.length+i]?=Zc from Zbk (by omega)]
  simp
variable {P:Pg}{m:Str}{n i:Nat}{o:E1}{a:A1}{xs:List IV}{c:Str}{fs:List (Str×IV)}
theorem Jyp (e:o σ h=.ok (.ref i) h1)(hl:h1[i]?=Za (.lst xs))(hg:bmOf "list" m n=Za g):WR (Jo P m n o a σ h) Q=WR (a σ h1) λ vs h2=>WR (g (.ref i) vs h2) Q:=by
 unfold Jo
 rw[e]
 have hi:VH (.ref i) h1=Zk:=by simp[VH,hl]
 have ht:tyS (.ref i) h1="list":=by simp[tyS,hl]
 dsimp only
 rw[hi,ht,hg]
 dsimp only
 rw[if_neg Zt]
 unfold eBm
 rw[e,Jr,V6]
 have:tyOk "list" (.ref i) h1=Zh:=by simp[tyOk,hl]
 rw[if_pos this,Jr]
theorem VQ (e:o σ h=.ok (.ref i) h1)(hi:h1[i]?=Za (.ins c fs))(hf:fs.lookup m=Zc)(hd:JZ P m n c=Za (f,d)):WR (Jo P m n o a σ h) Q=WR (a σ h1) λ vs h2=>WR (f (.ref i::(vs++d)) h2) Q:=by
 unfold Jo
 rw[e]
 have hi':VH (.ref i) h1=Zh:=by simp[VH,hi]
 dsimp only
 rw[hi',if_pos rfl]
 unfold Jst
 rw[e,Jr,V6]
 dsimp only
 rw[hi]
 dsimp only
 rw[hd,hf]
 dsimp only
 rw[Jr]
theorem Jr7 (y:IV):WR (VT (.ref i) [y] h) Q=∃xs,h[i]?=Za (.lst xs)/\xs.length<sizeLine/\Q .non (h.set i (.lst (xs++[y]))):=by
 unfold VT
 cases e:h[i]? with
 | none=>simp[WR,e]
 | some ob =>
  cases ob with
  | lst xs=>by_cases hz:xs.length<sizeLine<;>simp[WR,e,hz]
  | _=>simp[WR,e]
theorem VU:bmOf "list" "append" 1=Za VT:=by kernel_rfl
theorem Qc (e:h[i]?=Za (.ins c fs)):VF f (.ref i) h=fs.lookup f:=by simp[VF,e]
theorem Jux:WR (Vh (.ref i) h) Q=∃xs,h[i]?=Za (.lst xs)/\Q (.ref h.length) (h++[.lst xs]):=by
 unfold Vh
 cases e:h[i]? with
 | none=>simp[WR,e]
 | some ob=>cases ob<;>simp[WR,e]
theorem Jgh (xs:List IV):WR (Vh (.tup xs) h) Q=Q (.ref h.length) (h++[.lst xs]):=rfl
theorem Jsh:WR (Xg (.ref i) h) Q=∃xs,h[i]?=Za (.lst xs)/\Q (.tup xs) h:=by
 unfold Xg
 cases e:h[i]? with
 | none=>simp[WR,e]
 | some ob=>cases ob<;>simp[WR,e]
end
section
variable {σ:ISt}{h:IH}{Q:IV->IH->Prop}
theorem Jj2 (i j:Nat):WR (Jl (.ref i) (.ref j) h) Q=∃xs,h[i]?=Za (.lst xs)/\∃ys,h[j]?=Za (.lst ys)/\xs.length+ys.length<=sizeLine/\Q (.ref h.length) (h++[.lst (xs++ys)]):=by
 unfold Jl
 dsimp only
 split
 ·rename_i xs ys e e'
  rw[QZ]
  refine propext ⟨λ ⟨a,b⟩=>?_,λ ⟨xs',f,ys',f',l,q⟩=>?_⟩
  ·by_cases l:xs.length+ys.length<=sizeLine
   ·exact⟨xs,e,ys,e',l,a l⟩
   ·exact(b l).elim
  ·rw[e] at f
   rw[e'] at f'
   cases f
   cases f'
   exact⟨λ _=>q,λ n=>absurd l n⟩
 ·rename_i no
  exact propext ⟨Zbs,λ ⟨xs,f,ys,f',_⟩=>(no xs ys f f').elim⟩
end
section
variable {σ:ISt}{h h1:IH}{Q:IV->IH->Prop}{P:Pg}{m:Str}{n i:Nat}{o:E1}{a:A1}{x:Str}
theorem Jyq (e:o σ h=.ok (.str x) h1)(hg:bmOf "str" m n=Za g):WR (Jo P m n o a σ h) Q=WR (a σ h1) λ vs h2=>WR (g (.str x) vs h2) Q:=by
 unfold Jo
 rw[e]
 have hi:VH (.str x) h1=Zk:=rfl
 have ht:tyS (.str x) h1="str":=rfl
 dsimp only
 rw[hi,ht,hg]
 dsimp only
 rw[if_neg Zt]
 unfold eBm
 rw[e,Jr,V6]
 have:tyOk "str" (.str x) h1=Zh:=rfl
 rw[if_pos this,Jr]
theorem Jwo:bmOf "str" "join" 1=Za Xy:=by kernel_rfl
theorem Jpt:bmOf "list" "extend" 1=Za Xw:=by kernel_rfl
theorem Jyr:WR (Xy (.str x) [.ref i] h) Q=∃xs,h[i]?=Za (.lst xs)/\∃zs,Qt xs=Za zs/\JoinOk x zs=Zh/\Q (.str (Txt.join x zs)) h:=by
 unfold Xy
 cases e:h[i]? with
 | none=>simp[WR,e]
 | some ob =>
  cases ob with
  | lst xs =>
   cases q:Qt xs with
   | none=>simp[WR,e,q]
   | some zs=>by_cases hz:JoinOk x zs=Zh<;>simp[WR,e,q,hz]
  | _=>simp[WR,e]
theorem Jjw:∀zs:List Str,Qt (zs.map IV.str)=Za zs
 | []=>rfl
 | z::zs=>by
  rw[Z6,Qt,Jjw zs];rfl
end
section
variable {σ:ISt}{h:IH}{Q:IV->IH->Prop}{i:Nat}
theorem Jyw:WR (sumI (.ref i) h) Q=∃xs,h[i]?=Za (.lst xs)/\∃ns,JH xs=Za ns/\Q (.int ns.sum) h:=by
 unfold sumI
 cases e:h[i]? with
 | none=>simp[WR,e]
 | some ob =>
  cases ob with
  | lst xs=>cases q:JH xs<;>simp[WR,e,q]
  | _=>simp[WR,e]
theorem Vx:∀ns:List Int,JH (ns.map IV.int)=Za ns
 | []=>rfl
 | n::ns=>by
  rw[Z6,JH,Vx ns];rfl
theorem Jyt (aa:A1)(md:E1):WR (Yg aa md σ h) Q=WR (aa σ h) λ xs h1=>WR (md σ h1) λ d h2=>∃i,xs=[.ref i]/\∃ys,h2[i]?=Za (.lst ys)/\∃ns,JH ys=Za ns/\Q (maxD ns d) h2:=by
 unfold Yg
 rw[Jr]
 congr 1;funext xs h1
 rw[Jr]
 congr 1;funext d h2
 match xs with
 | [.ref i] =>
  simp only[Zda,IV.ref.injEq,and_true,exists_eq_left']
  cases e:h2[i]? with
  | none=>simp[WR]
  | some ob =>
   cases ob with
   | lst ys=>cases q:JH ys<;>simp[WR,q]
   | _=>simp[WR]
 | []=>simp[WR]
 | [.non]=>simp[WR]
 | [.bl _]=>simp[WR]
 | [.int _]=>simp[WR]
 | [.str _]=>simp[WR]
 | [.tup _]=>simp[WR]
 | [.rol _]=>simp[WR]
 | x::_::_=>cases x<;>simp[WR]
theorem Jse (aa:A1):WR (Yf aa σ h) Q=WR (aa σ h) λ xs h1=>∃i,xs=[.ref i]/\∃ys,h1[i]?=Za (.lst ys)/\∃zs,Qt ys=Za zs/\zs.length+1<Zcm/\Q (.int (cntD (QJ zs) zs.length)) h1:=by
 unfold Yf
 rw[Jr]
 congr 1;funext xs h1
 match xs with
 | [.ref i] =>
  simp only[Zda,IV.ref.injEq,and_true,exists_eq_left']
  cases e:h1[i]? with
  | none=>simp[WR]
  | some ob =>
   cases ob with
   | lst ys =>
    cases q:Qt ys with
    | none=>simp[WR,q]
    | some zs=>by_cases hz:zs.length+1<Zcm<;>simp[WR,q,hz]
   | _=>simp[WR]
 | []=>simp[WR]
 | [.non]=>simp[WR]
 | [.bl _]=>simp[WR]
 | [.int _]=>simp[WR]
 | [.str _]=>simp[WR]
 | [.tup _]=>simp[WR]
 | [.rol _]=>simp[WR]
 | x::_::_=>cases x<;>simp[WR]
theorem Jkl {zs:List Str}(nd:zs.Nodup):∀i,i<=zs.length->cntD (QJ zs) i=i
 | 0,_=>rfl
 | i+1,hi=>by
  have ih:=Jkl nd i (by omega)
  have hm:metB (QJ zs) i (QJ zs i)=Zk:=by
   unfold metB
   rw[List.any_eq_false]
   intro j hj
   have hj:=Za3.mp hj
   simp only[decide_eq_true_eq]
   intro e
   simp only[QJ,Zl,Zb (show j<zs.length by omega),Zb (show i<zs.length by omega),ZdD] at e
   have:=(ZcJ nd).mp e
   omega
  unfold cntD
  rw[hm,ih]
  rfl
theorem Jv0 (f:Nat->Int):∀(n j:Nat),j<n->f j<=JJ f n
 | 0,_,h=>by omega
 | 1,j,h=>by
  obtain rfl:j=0:=by omega
  exact Zay _
 | n+2,j,h=>by
  rw[Jdb f (by omega)]
  by_cases hj:j=n+1
  ·subst hj;split<;>omega
  ·have:=Jv0 f (n+1) j (by omega)
   split<;>omega
theorem Jv1 (f:Nat->Int)(b:Int):∀(n:Nat),0<n->(∀j,j<n->f j<=b)->JJ f n<=b
 | 0,h,_=>by omega
 | 1,_,q=>q 0 (by omega)
 | n+2,_,q=>by
  rw[Jdb f (by omega)]
  have:=Jv1 f b (n+1) (by omega) λ j hj=>q j (by omega)
  have:=q (n+1) (by omega)
  split<;>omega
end
section
variable {h:IH}{Q:IV->IH->Prop}{i:Nat}
theorem Jr9 (hi:h[i]?=Za (.lst xs))(hj:h[j]?=Za (.lst ys))(hl:xs.length+ys.length<=sizeLine):WR (Xw (.ref i) [.ref j] h) Q=Q .non (h.set i (.lst (xs++ys))):=by
 unfold Xw
 simp only[hi,hj]
 rw[if_pos hl]
 rfl
end
def KpB (i0:Nat)(h h':IH):Prop:=∀(j:Nat)(ob:IX),j≠i0->h[j]?=Za ob->h'[j]?=Za ob
def Kp (h h':IH):Prop:=∀(j:Nat)(ob:IX),h[j]?=Za ob->h'[j]?=Za ob
theorem KpB.trans (p:KpB i0 a b)(q:KpB i0 b c):KpB i0 a c:=λ j ob n e=>q j ob n (p j ob n e)
theorem Kp.trans (p:Kp a b)(q:Kp b c):Kp a c:=λ j ob e=>q j ob (p j ob e)
theorem Kp.but (p:Kp a b):KpB i0 a b:=λ j ob _ e=>p j ob e
theorem Ex.kp (x:Ex a b):Kp a b:=λ _ _ e=>x.get e
theorem Jy5 {chk:IH->Prop}{e:E1}{caps:ISt}{D:IV->IV->IH->Prop}(i0:Nat)(mono:∀x y h2 h3,KpB i0 h2 h3->D x y h2->D x y h3):∀{xs acc:List IV}{o:Option IV}{h1:IH},h1[i0]?=Za (.lst acc)->(∀h2,KpB i0 h1 h2->chk h2)->acc.length+xs.length<sizeLine ->
  (∀x∈xs,∀h2:IH,KpB i0 h1 h2->i0<h2.length->WR (e (Za x::caps) h2) λ v h3=>Ex h2 h3/\D x v h3) ->
  WR (JK chk (gNm 0) JC e i0 xs (o::caps) h1) λ v h3=>v=.ref i0/\∃ys,h3[i0]?=Za (.lst (acc++ys))/\ys.length=xs.length/\KpB i0 h1 h3/\∀(i:Nat) x y,xs[i]?=Za x->ys[i]?=Za y->D x y h3
 | [],acc,o,h1,hi,hc,_,_=>by
  unfold JK
  rw[if_pos (hc h1 λ _ _ _ q=>q)]
  exact⟨rfl,[],by simpa using hi,rfl,λ _ _ _ q=>q,λ i x y q=>by simp at q⟩
 | x::xs,acc,o,h1,hi,hc,hl,he=>by
  unfold JK
  rw[if_pos (hc h1 λ _ _ _ q=>q)]
  dsimp only[gNm,Zbw,JC]
  have hl':acc.length+xs.length+1<sizeLine:=by simpa [Zer] using hl
  obtain⟨v,h3,e3,x3,dv⟩:=(he x Z4 h1 (λ _ _ _ q=>q) (JB hi)).eq
  rw[e3]
  dsimp only
  rw[x3.get hi]
  dsimp only
  rw[if_pos (by omega)]
  have k34:KpB i0 h3 (h3.set i0 (.lst (acc++[v]))):=λ j ob n q=>by
   rw[ZG (ZI n)];exact q
  have k14:KpB i0 h1 (h3.set i0 (.lst (acc++[v]))):=x3.kp.but.trans k34
  refine WR.mono (Jy5 i0 mono (acc:=acc++[v]) (by rw[ZK (JB (x3.get hi))]) (λ h4 q=>hc h4 (k14.trans q)) (by simp;omega) λ y hy h4 q=>he y (Zn _ hy) h4 (k14.trans q)) ?_
  rintro w h5 ⟨rfl,ys,g5,ln,k5,d5⟩
  refine⟨rfl,v::ys,by simpa using g5,by simp[ln],k14.trans k5,?_⟩
  intro i x' y' q1 q2
  cases i with
  | zero =>
   simp only[ZaF,Zbe] at q1 q2
   subst q1;subst q2
   exact mono _ _ _ _ (k34.trans k5) dv
  | succ i=>exact d5 i x' y' (by simpa using q1) (by simpa using q2)
theorem Jur {h h0:IH}{it:I1}{e:E1}{js:List Nat}{xs:List IV}{chk:IH->Prop}(D:IV->IV->IH->Prop)(hit:WR (it σ h0) λ J h1=>J.xs=xs/\J.chk=chk/\h1=h)(hl:xs.length<sizeLine) 
  (mono:∀x y h2 h3,KpB h.length h2 h3->D x y h2->D x y h3)(hc:∀h2:IH,Kp h h2->chk h2)
  (he:∀x∈xs,∀h2:IH,Kp h h2->h.length<h2.length->WR (e (Za x::js.map λ j=>(σ[j]?).join) h2) λ v h3=>Ex h2 h3/\D x v h3) :
  WR (Jz it 1 js (gNm 0) JC e σ h0) λ v h3=>v=.ref h.length/\∃ys,h3[h.length]?=Za (.lst ys)/\ys.length=xs.length/\Kp h h3/\∀(i:Nat) x y,xs[i]?=Za x->ys[i]?=Za y->D x y h3:=by
 obtain⟨J,h1,e1,q1,q2,rfl⟩:=hit.eq
 unfold Jz
 rw[e1]
 show WR (JK J.chk (gNm 0) JC e h1.length J.xs (Zc::js.map λ j=>(σ[j]?).join) (h1++[.lst []])) _
 rw[q1,q2]
 have lift:∀{h2:IH},KpB h1.length (h1++[IX.lst []]) h2->Kp h1 h2:=λ q j ob r=>q j ob (Z8 (JB r)) (grow r)
 refine WR.mono (Jy5 h1.length mono (acc:=[]) Jk (λ h2 q=>hc h2 (lift q)) (by simpa using hl) λ x hx h2 q ln=>he x hx h2 (lift q) ln) ?_
 rintro v h3 ⟨rfl,ys,g3,ln,k3,d3⟩
 exact⟨rfl,ys,by simpa using g3,ln,lift k3,d3⟩
section
variable {h:IH}
theorem Jws {g:G1}{t:T1}{e:E1}{caps:ISt}{p:IV->Bool}{f:IV->IV}{st:IV->ISt}(i0:Nat):∀{xs acc:List IV}{ls:ISt}{h1:IH},ls.length=n->h1[i0]?=Za (.lst acc)->(∀h2,(∀j ob,j≠i0->h1[j]?=Za ob->h2[j]?=Za ob)->chk h2)->acc.length+xs.length<sizeLine ->
  (∀x∈xs,∀(ls:ISt)(h2:IH),ls.length=n->(st x).length=n/\g x (ls++caps) h2=.next (st x++caps) h2) ->
  (∀x∈xs,∀h2,(∀j ob,j≠i0->h1[j]?=Za ob->h2[j]?=Za ob)->WR (t (st x++caps) h2) λ b h3=>b=p x/\Ex h2 h3) ->
  (∀x∈xs,p x=Zh->∀h2,(∀j ob,j≠i0->h1[j]?=Za ob->h2[j]?=Za ob)->WR (e (st x++caps) h2) λ v h3=>v=f x/\Ex h2 h3) ->
  WR (JK chk g t e i0 xs (ls++caps) h1) λ v h3=>v=.ref i0/\∃g,h3=h1.set i0 (.lst (acc++(xs.filter p).map f))++g
 | [],acc,ls,h1,_,hi,hc,_,_,_,_=>by
  unfold JK
  rw[if_pos (hc h1 λ _ _ _ q=>q)]
  refine⟨rfl,[],?_⟩
  simp only[List.filter_nil,Zba,Za4]
  refine(Zce λ j=>?_)
  by_cases hj:j=i0
  ·subst hj
   rw[hi,ZK (JB hi)]
  ·rw[ZG (ZI hj)]
 | x::xs,acc,ls,h1,hls,hi,hc,hl,hg,ht,he=>by
  unfold JK
  rw[if_pos (hc h1 λ _ _ _ q=>q)]
  obtain⟨sl,eg1⟩:=hg x Z4 ls h1 hls
  rw[eg1]
  dsimp only
  have hl':acc.length+xs.length+1<sizeLine:=by simpa [Zer] using hl
  obtain⟨b,h2,e1,rfl,x2⟩:=(ht x Z4 h1 λ _ _ _ q=>q).eq
  rw[e1]
  have k12:∀j ob,j≠i0->h1[j]?=Za ob->h2[j]?=Za ob:=λ j ob _ q=>x2.get q
  cases hp:p x with
  | false =>
   dsimp only
   refine WR.mono (Jws i0 sl (x2.get hi) (λ h3 q=>hc h3 λ j ob n r=>q j ob n (k12 j ob n r)) (by omega) (λ y hy=>hg y (Zn _ hy)) (λ y hy h3 q=>ht y (Zn _ hy) h3 λ j ob n r=>q j ob n (k12 j ob n r))
    λ y hy hpy h3 q=>he y (Zn _ hy) hpy h3 λ j ob n r=>q j ob n (k12 j ob n r)) λ v h3 ⟨ev,g,eg⟩=>⟨ev,?_⟩
   obtain⟨g2,rfl⟩:=x2
   refine⟨g2++g,?_⟩
   rw[eg,Za1 (h:=JB hi)]
   simp[hp]
  | true =>
   dsimp only
   obtain⟨v,h3,e3,rfl,x3⟩:=(he x Z4 hp h2 k12).eq
   rw[e3]
   dsimp only
   rw[x3.get (x2.get hi)]
   dsimp only
   rw[if_pos (by omega)]
   have k13:∀j ob,j≠i0->h1[j]?=Za ob->(h3.set i0 (.lst (acc++[f x])))[j]?=Za ob:=λ j ob n q=>by
    rw[ZG (ZI n)]
    exact x3.get (x2.get q)
   refine WR.mono (Jws i0 (acc:=acc++[f x]) sl (by rw[ZK (JB (x3.get (x2.get hi)))]) (λ h4 q=>hc h4 λ j ob n r=>q j ob n (k13 j ob n r)) (by simp;omega) (λ y hy=>hg y (Zn _ hy)) (λ y hy h4 q=>ht y (Zn _ hy) h4 λ j ob n r=>q j ob n (k13 j ob n r))
    λ y hy hpy h4 q=>he y (Zn _ hy) hpy h4 λ j ob n r=>q j ob n (k13 j ob n r)) λ v h4 ⟨ev,g,eg⟩=>⟨ev,?_⟩
   obtain⟨g3,q3⟩:=x2.trans x3
   refine⟨g3++g,?_⟩
   rw[eg,q3,Za1 (h:=JB hi),Za1 (h:=by rw[Zbt];exact JB hi),ZdS]
   simp[hp]
theorem Jnx {g:G1}{t:T1}{e:E1}{js:List Nat}{p:IV->Bool}{f:IV->IV}{st:IV->ISt}{n:Nat}(hit:WR (it σ h0) λ J h1=>J.xs=xs/\J.chk=chk/\h1=h)(hl:xs.length<sizeLine) 
  (hc:∀h2:IH,(∀(j:Nat)(ob:IX),h[j]?=Za ob->h2[j]?=Za ob)->chk h2)
  (hg:∀x∈xs,∀(ls:ISt)(h2:IH),ls.length=n->(st x).length=n/\g x (ls++js.map λ j=>(σ[j]?).join) h2=.next (st x++js.map λ j=>(σ[j]?).join) h2)
  (ht:∀x∈xs,∀h2:IH,(∀(j:Nat)(ob:IX),h[j]?=Za ob->h2[j]?=Za ob)->WR (t (st x++js.map λ j=>(σ[j]?).join) h2) λ b h3=>b=p x/\Ex h2 h3)
  (he:∀x∈xs,p x=Zh->∀h2:IH,(∀(j:Nat)(ob:IX),h[j]?=Za ob->h2[j]?=Za ob)->WR (e (st x++js.map λ j=>(σ[j]?).join) h2) λ v h3=>v=f x/\Ex h2 h3) :
  WR (Jz it n js g t e σ h0) λ v h3=>v=.ref h.length/\∃g,h3=h++.lst ((xs.filter p).map f)::g:=by
 obtain⟨J,h1,e1,q1,q2,rfl⟩:=hit.eq
 unfold Jz
 rw[e1]
 show WR (JK J.chk g t e h1.length J.xs (ZR n Zc++js.map λ j=>(σ[j]?).join) (h1++[.lst []])) _
 rw[q1,q2]
 have lift:∀{h2:IH},(∀j ob,j≠h1.length->(h1++[IX.lst []])[j]?=Za ob->h2[j]?=Za ob)->∀j ob,h1[j]?=Za ob->h2[j]?=Za ob:=λ q j ob r=>q j ob (Z8 (JB r)) (grow r)
 refine WR.mono (Jws (p:=p) (f:=f) (st:=st) h1.length (acc:=[]) (Zb0 ..) Jk (λ h2 q=>hc h2 (lift q)) (by simpa using hl) hg (λ x hx h2 q=>ht x hx h2 (lift q)) λ x hx hp h2 q=>he x hx hp h2 (lift q)) λ v h3 ⟨ev,g,eg⟩=>⟨ev,g,?_⟩
 rw[eg]
 simp
end
def Jwe (ts:List Zp)(H:Hp):Prop:=∀b,H b=Zc∨(∃o xs,H b=Za (.frz o (.lst xs)))∨(b∈ts/\H b=Za (.tbl #[]))
theorem Jqz {P:ZB}{w:Zab}{K:W.Frag}{mg mb:Str->Option Ze}{k:Nat}{fa a:Zp}{fd:ZaH}{x:Str}{sp:Sp}{s₁:Zm}{vs:List Ze}{ns:List Int}{ts:List Zp} 
  (KX:K.In s₁.heap)(hns:s₁.heap.Ns Z2 mg)(hb:s₁.heap.Ns Zcz mb)(hbb:∀x:Str,x≠"__name__"->mb x=Zck x)(hlim:s₁.heap.NoLimit)(hg:s₁.gens=#[])
  (ha:s₁.heap.get? a=Za { cls:=.type "list",data:=.seq vs.toArray })(hi:ZbD vs ns)(hl:ns.length<=sizeLine)(hr:Room k Zek)
  (hT:∀p∈ts,s₁.heap.get? p=Za (W.tabObj #[])/\isCodeTable s₁.heap p/\K.lookup p=Zc)
  (hbm:∃bm ob,mg "__builtins__"=Za (.ref bm)/\bm≠Zcz/\s₁.heap.get? bm=Za ob/\ob.cls=.type "module"/\ob.dict=Za Zcz/\ob.data=.plain)
  (F:∀base:Zax,K.In base->base.Ns Z2 mg->Qw mg base->FnOk P w K mg base (CXI P w) k fa fd [x] sp)(hbind:∀(s:Zm)(u:Ze),Zc9 s fd ⟨[u],[]⟩ [(x,u)])
  (hsp:∀H:Hp,Jwe ts H->SqL K H a (ns.map V.int)->(∀p∈ts,H p=Za (.tbl #[]))->sp [.ref a] H (λ v _=>v=.bl Zh) λ _ _ _=>False) :
  Zcv (Z9 P w) Zek (.call (.ref fa) ⟨[.ref a],[]⟩) (λ r s'=>r=.ok (.ret (.bool Zh))/\OldK s₁.heap s'.heap/\s'.os=s₁.os/\Zdc s'.gens) s₁:=by
 have rv:=L2.XR hi
 have lenV:=hi.length
 have nta:a∉ts:=λ z=>by
  have e:=(hT a z).1
  rw[ha] at e
  have e':=Zao e
  injection e' with h1
  cases h1
 have core:∀H:Hp,Jwe ts H->SqL K H a (ns.map V.int)->HOk P w H s₁.heap->(∀b,H b≠Zc->b=a∨b∈ts)->(H a≠Zc->K.lookup a=Zc)->(∀p∈ts,H p=Za (.tbl #[])) ->
   Zcv (Z9 P w) Zek (.call (.ref fa) ⟨[.ref a],[]⟩) (λ r s'=>r=.ok (.ret (.bool Zh))/\OldK s₁.heap s'.heap/\s'.os=s₁.os/\Zdc s'.gens) s₁:=by
  intro H hO hS hok hA hK hTt
  have base_of:∀{b:Zp}{o:Obj},s₁.heap.get? b=Za o->H b=Zc->(hidT s₁.heap H).get? b=Za o:=λ e n=>Js2 e n
  have noA:∀{b:Zp}{o:Obj},s₁.heap.get? b=Za o->(∀vs n,o.data≠.seq vs n)->(∀vs,o.data≠.fields vs)->H b=Zc:=λ {b o} e d1 d2=>by
   cases q:H b with
   | none=>rfl
   | some u =>
    rcases hA b (by rw[q];simp) with e'|e'
    ·subst e'
     rw[ha] at e;cases e
     exact absurd rfl (d1 _ _)
    ·rw[(hT b e').1] at e;cases e
     exact absurd rfl (d2 _)
  have nsK:∀{b:Zp}{m:Str->Option Ze},s₁.heap.Ns b m->(hidT s₁.heap H).Ns b m:=λ {b m} ⟨o,es,ep,e,d,r⟩=>⟨o,es,ep,base_of e (noA e (λ _ _ z=>by rw[d] at z;cases z) λ _ z=>by rw[d] at z;cases z),d,r⟩
  have hKb:K.In (hidT s₁.heap H):=λ b o e=>base_of (KX b o e) (by
   cases q:H b with
   | none=>rfl
   | some u =>
    rcases hA b (by rw[q];simp) with e'|e'
    ·subst e'
     rw[hK (by rw[q];simp)] at e;cases e
    ·rw[(hT b e').2.2] at e;cases e)
  have hM:Mod K mg (hidT s₁.heap H):=⟨hKb,nsK hns,⟨mb,nsK hb,hbb⟩,let ⟨mc,h1,h2⟩:=hlim;⟨mc,nsK h1,h2⟩⟩
  have hB:Qw mg (hidT s₁.heap H):=by
   obtain⟨bm,ob,b1,b2,b3,b4,b5,b6⟩:=hbm
   refine⟨bm,ob,b1,b2,λ z=>?_,base_of b3 (noA b3 (λ _ _ z=>by rw[b6] at z;cases z) λ _ z=>by rw[b6] at z;cases z),b4,b5,b6⟩
   obtain⟨o,es,ep,e,d,_⟩:=hns
   rw[<- z,b3] at e
   cases e
   rw[b6] at d
   cases d
  have e0:Env0 P w K mg (hidT s₁.heap H) Zek [] s₁ H:=⟨rfl,hM,λ b o e=>Jxs e,Zc8 (Jqj _ _),trivial,λ b hb=>absurd (show b∈([]:List Zp) from hb) (by simp),hok,.of_eq hg⟩
  refine ZcB ((F _ hKb (nsK hns) hB).run Zek [] s₁ H ⟨[.ref a],[]⟩ [.ref a] [.ref a] _ _ hr e0 (hbind s₁ (.ref a)) (.cons rfl .nil) (hsp H hO hS hTt)) λ r s' h=>?_
  cases r with
  | error e=>exact h.elim λ _ z=>z.2.2.2.2.elim
  | ok fl =>
   cases fl with
   | next=>exact Zbs h
   | brk=>exact Zbs h
   | cont=>exact Zbs h
   | ret u =>
    obtain⟨v,H',os,bare,un,hok',r',q⟩:=h
    have q':v=.bl Zh:=q
    subst q'
    obtain rfl:u=ZcI Zh:=r'
    have main:∀b o,s₁.heap.get? b=Za o->asItWas s₁.heap s'.heap b o/\∃o',s'.heap.get? b=Za o':=λ b o e=>by
     rcases hO b with z|⟨ob,xs,z⟩|⟨hb,z⟩
     ·have:=un.keep b o e z (by intro z;exact absurd (show b∈([]:List Zp) from z) (by simp)) (by simp)
      exact⟨.inl this,_,this⟩
     ·have z2:=un.frzs b ob _ z
      obtain⟨e1,_⟩:=hok b _ z
      obtain⟨e2,_⟩:=hok' b _ z2
      rw[e] at e1;cases e1
      exact⟨.inl e2,_,e2⟩
     ·obtain⟨more,z2⟩:=un.tbls b _ z
      have e2:=hok' b _ z2
      have e1:=(hT b hb).1
      rw[e] at e1
      cases e1
      exact⟨.inr (.inl ⟨(hT b hb).2.1,rfl,#[],more,rfl,e2⟩),_,e2⟩
    exact⟨rfl,⟨λ b o e=>(main b o e).1,λ b o e=>(main b o e).2⟩,os,bare⟩
 cases hk:K.lookup a with
 | some o =>
  have e:=KX a o hk
  rw[ha] at e
  cases e
  refine core (λ b=>if b∈ts then Za (.tbl #[]) else Zc) (λ b=>?_) (.inr ⟨_,vs.toArray,_,hk,rfl,rfl,rfl,by rw[Zu,lenV];exact hl,by simpa using rv⟩) (λ b u z=>?_) (λ b z=>?_) (λ z=>absurd (if_neg nta) z) λ p hp=>if_pos hp
  ·by_cases hb:b∈ts
   ·exact .inr (.inr ⟨hb,if_pos hb⟩)
   ·exact .inl (if_neg hb)
  ·by_cases hb:b∈ts
   ·have z':=(if_pos hb).symm.trans z
    cases z'
    exact(hT b hb).1
   ·have z':=(if_neg hb).symm.trans z
    cases z'
  ·by_cases hb:b∈ts
   ·exact .inr hb
   ·exact absurd (if_neg hb) z
 | none =>
  refine core (λ b=>if b=a then Za (.frz { cls:=.type "list",data:=.seq vs.toArray } (.lst (ns.map V.int))) else if b∈ts then Za (.tbl #[]) else Zc) (λ b=>?_) (.inl (.inr ⟨{ cls:=.type "list",data:=.seq vs.toArray },if_pos rfl⟩)) (λ b u z=>?_) (λ b z=>?_) (λ _=>hk) λ p hp=>?_
  ·by_cases hb:b=a
   ·exact .inr (.inl ⟨_,_,if_pos hb⟩)
   ·by_cases hc:b∈ts
    ·exact .inr (.inr ⟨hc,(if_neg hb).trans (if_pos hc)⟩)
    ·exact .inl ((if_neg hb).trans (if_neg hc))
  ·by_cases hb:b=a
   ·have z':=(if_pos hb).symm.trans z
    cases z'
    subst hb
    exact⟨ha,by rw[Zj];exact hl,vs,_,rv,ha⟩
   ·by_cases hc:b∈ts
    ·have z':=((if_neg hb).trans (if_pos hc)).symm.trans z
     cases z'
     exact(hT b hc).1
    ·have z':=((if_neg hb).trans (if_neg hc)).symm.trans z
     cases z'
  ·by_cases hb:b=a
   ·exact .inl hb
   ·by_cases hc:b∈ts
    ·exact .inr hc
    ·exact absurd ((if_neg hb).trans (if_neg hc)) z
  ·have hb:p≠a:=λ z=>nta (z▸hp)
   exact(if_neg hb).trans (if_pos hp)
def Jso (o:Obj)(q:Str):Bool:=match o with
 | ⟨_,_,.fields vs,_⟩=>(match vs.toList with|_::.str n _::_=>n==q|_=>Zk)
 | _=>Zk
def QX (K:W.Frag)(q:Str)(p:Zp):Bool:=(K.lookup p).isNone&&K.all (λ e=>!(Jso e.2 q)||W.codeHdIn K e.1 p)&&K.any (λ e=>Jso e.2 q&&W.codeHdIn K e.1 p)
def Vd (K:W.Frag):List Str->List Zp->Bool
 | [],[]=>Zh
 | q::qs,p::ps=>QX K q p&&!ps.contains p&&Vd K qs ps
 | _,_=>Zk
theorem Jox {K:W.Frag}(h:K.lookup c=Za o):(c,o)∈K:=by
 induction K with
 | nil=>cases h
 | cons p K ih =>
  obtain⟨b,o'⟩:=p
  rw[Zai] at h
  split at h
  ·rename_i e
   cases h
   rw[beq_iff_eq.mp e]
   exact Z4
  ·exact Zn _ (ih h)
theorem QX.code {K:W.Frag}{q:Str}{p:Zp}(h:QX K q p=Zh):∀cdv,W.codeIn K cdv q=Zh->∃c,cdv=.ref c/\W.codeHdIn K c p=Zh:=by
 simp only[QX,Zr,ZaW,Za5,ZaO] at h
 intro cdv e
 unfold W.codeIn at e
 split at e
 ·rename_i c
  refine⟨c,rfl,?_⟩
  cases hk:K.lookup c with
  | none=>rw[hk] at e;cases e
  | some o =>
   rw[hk] at e
   rcases h.1.2 _ (Jox hk) with z|z
   ·exfalso
    have e':Jso o q=Zh:=by
     obtain⟨oc,od,dt,sl⟩:=o
     cases dt<;>first|exact e|cases e
    have z':Jso o q=Zk:=z
    rw[e'] at z'
    cases z'
   ·exact z
 ·cases e
theorem QX.some {K:W.Frag}{q:Str}{p:Zp}(h:QX K q p=Zh):K.lookup p=Zc/\∃c,W.codeHdIn K c p=Zh:=by
 simp only[QX,Zr,ZbM,Option.isNone_iff_eq_none] at h
 obtain⟨⟨h1,_⟩,e,_,h2⟩:=h
 exact⟨h1,e.1,h2.2⟩
theorem Vd.mem {K:W.Frag}:∀{qs:List Str}{ts:List Zp},Vd K qs ts=Zh->ts.Nodup/\qs.length=ts.length/\(∀(i:Nat)(q:Str),qs[i]?=Za q->∃p,ts[i]?=Za p/\QX K q p=Zh)/\∀p∈ts,∃q,QX K q p=Zh
 | [],[],_=>⟨.nil,rfl,λ i q e=>by simp at e,λ p hp=>by cases hp⟩
 | q::qs,p::ps,h=>by
  simp only[Vd,Zr,ZaO,List.contains_eq_mem,decide_eq_false_iff_not] at h
  obtain⟨⟨h1,h2⟩,h3⟩:=h
  obtain⟨a,b,c,d⟩:=Vd.mem h3
  refine⟨Zcw.mpr ⟨h2,a⟩,by simp[b],λ i r e=>?_,λ r hr=>?_⟩
  ·cases i with
   | zero =>
    have e':Za q=Za r:=e
    cases e'
    exact⟨p,rfl,h1⟩
   | succ i=>exact c i r e
  ·rcases Z7.mp hr with rfl|hr
   ·exact⟨q,h1⟩
   ·exact d r hr
 | [],_::_,h=>by cases h
 | _::_,[],h=>by cases h
theorem Jou {K:W.Frag}{x:Str}{f:List IV->IH->Res IV}{H:Hp}{a:Zp}{ns:List Int}{qs:List Str}{ts:List Zp}(hO:Jwe ts H)(hS:SqL K H a (ns.map V.int))(hT:∀p∈ts,H p=Za (.tbl #[]))(hc:Vd K qs ts=Zh)
  (hf:∃h',f [.rol (ns.map IV.int)] (qs.map IX.tab)=.ok (.bl Zh) h'):XJ K x f [.ref a] H (λ v _=>v=.bl Zh) λ _ _ _=>False:=by
 intro ce
 obtain⟨h',hf⟩:=hf
 have sr:SqR K H a (ns.map V.int):=by
  rcases hS with(h|⟨o,h⟩)|h
  ·rcases hO a with z|⟨ob,xs,z⟩|⟨_,z⟩
   ·rw[z] at h;cases h
   ·rw[z] at h;cases h
   ·rw[z] at h;cases h
  ·exact .inl ⟨o,h⟩
  ·exact .inr h
 obtain⟨nd,le,at_,_⟩:=Vd.mem hc
 refine⟨rfl,ts,qs.map IX.tab,[.rol (ns.map IV.int)],⟨by simp[le],nd,λ i o e=>?_⟩,⟨.ref a,[],rfl,⟨a,_,rfl,sr,RVs.ints ns⟩,rfl⟩,?_⟩
 ·rw[Z1] at e
  cases eq:qs[i]? with
  | none=>rw[eq] at e;cases e
  | some q =>
   rw[eq] at e
   cases e
   obtain⟨p,ep,hp⟩:=at_ i q eq
   exact⟨p,ep,QX.code hp,#[],hT p (Zb5 ep),trivial,λ pos cv z=>by cases z⟩
 ·rw[hf]
  intro v H' ι' _ _ q
  exact q
theorem Juo {l:W.OpenLaw}{n k:Nat}{q:ZB}{loose:List Str}{XP:(Str->Option Ze)->Zax->Prop}{YP:Zab->Zax->Prop}{d:DefRec}{K:Params->W.Frag}{f:List IV->IH->Res IV}{x:Str}{qs:List Str}{ts:List Zp}
  (hn:l.most=Za n)(hn2:n<=sizeLine)(hdf:d.params.defaults=[])(hr:Room k Zek)
  (hY:∀(w:Zab)(h:Zax),YP w h->(K w.params).In h/\∀p∈ts,h.get? p=Za (W.tabObj #[]))(hc:∀w:Zab,Vd (K w.params) qs ts=Zh)
  (F:∀(w:Zab)(mg:Str->Option Ze)(fa:Zp)(h:Zax),(K w.params).In h->h.Ns Z2 mg->mg d.name=Za (.ref fa) ->
   ∃fd:ZaH,(∀(s:Zm)(u:Ze),Zc9 s fd ⟨[u],[]⟩ [(x,u)]) /\
    ∀base:Zax,(K w.params).In base->base.Ns Z2 mg->Qw mg base->FnOk l.prog w (K w.params) mg base (CXI l.prog w) k fa fd [x] (XJ (K w.params) x f))
  (hf:∀ns:List Int,ns.length<=n->∃h',f [.rol (ns.map IV.int)] (qs.map IX.tab)=.ok (.bl Zh) h') :
  W.WalkO q loose XP YP l.row.toRowW d [] (λ f vs=>PySem.call f vs):=by
 refine Att.attach_call hn hdf λ w s₀ s₁ mg mb fa o pm cd doc a vs ns G Y ho hd hcd hmg hobj hints hlen hg=>?_
 obtain⟨KX,hT⟩:=hY w _ Y
 obtain⟨fd,hb,hF⟩:=F w mg fa _ KX G.T.g hmg
 refine Jqz KX G.T.g G.T.b G.T.builtins G.T.nolimit hg hobj hints (ZZ hlen hn2) hr (λ p hp=>?_) G.T.bmain hF hb λ H hO hS hTt=>Jou hO hS hTt (hc w) (hf ns hlen)
 obtain⟨q,hq⟩:=(Vd.mem (hc w)).2.2.2 p hp
 obtain⟨h1,c,h2⟩:=QX.some hq
 exact⟨hT p hp,((W.codeHd_of_K KX h2).tab (hT p hp)).isCodeTable,h1⟩
def Qz (kf:IV->Int):IV->List IV->IV
 | b,[]=>b
 | b,y::r=>if kf y>kf b then Qz kf y r else Qz kf b r
theorem Jfg (kf:IV->Int):∀(r:List IV)(b:IV),Qz kf b r=b∨Qz kf b r∈r
 | [],b=>.inl rfl
 | y::r,b=>by
  unfold Qz
  split
  ·rcases Jfg kf r y with e|e
   ·rw[e];exact .inr Z4
   ·exact .inr (Zn _ e)
  ·rcases Jfg kf r b with e|e
   ·exact .inl e
   ·exact .inr (Zn _ e)
theorem Jg1 (kf:IV->Int):∀(r:List IV)(b:IV),kf b<=kf (Qz kf b r)/\∀y∈r,kf y<=kf (Qz kf b r)
 | [],b=>⟨Zay _,λ y hy=>by cases hy⟩
 | y::r,b=>by
  unfold Qz
  split
  ·rename_i h
   obtain⟨h1,h2⟩:=Jg1 kf r y
   exact⟨by omega,λ z hz=>by
    rcases Z7.mp hz with rfl|hz
    ·exact h1
    ·exact h2 z hz⟩
  ·rename_i h
   obtain⟨h1,h2⟩:=Jg1 kf r b
   exact⟨h1,λ z hz=>by
    rcases Z7.mp hz with rfl|hz
    ·omega
    ·exact h2 z hz⟩
theorem Jhr (hi:h0[i]?=Za (.lst ys))(hm:∀y∈ys,∀h,Ex h0 h->WR (mk y h) λ v h'=>v=.int (kf y)/\Ex h h') :
  ∀(r:Nat)(b:IV)(h:IH),Ex h0 h->r<=ys.length->WR (Qa gtZ mk i ys.length r b (.int (kf b)) h) λ v h'=>v=Qz kf b (ys.drop (ys.length-r))/\Ex h h'
 | 0,b,h,x,_=>by
  unfold Qa
  rw[x.get hi]
  dsimp only
  rw[if_pos rfl]
  refine⟨?_,.refl _⟩
  rw[Nat.sub_zero,ZdC]
  rfl
 | r+1,b,h,x,hr=>by
  unfold Qa
  rw[x.get hi]
  dsimp only
  rw[if_pos rfl]
  have hlt:ys.length-(r+1)<ys.length:=by omega
  rw[Zb hlt]
  dsimp only
  have hd:ys.drop (ys.length-(r+1))=ys[ys.length-(r+1)]::ys.drop (ys.length-r):=by
   rw[Za2 hlt,show ys.length-(r+1)+1=ys.length-r by omega]
  obtain⟨v,h2,e,rfl,x2⟩:=(hm _ (Z5 hlt) h x).eq
  rw[e,hd]
  show WR (match gtZ (.int (kf ys[ys.length-(r+1)])) (.int (kf b)) with|some Zh=>_|some Zk=>_|none=>_) _
  unfold gtZ
  dsimp only
  unfold Qz
  by_cases hb:kf ys[ys.length-(r+1)]>kf b
  ·rw[decide_eq_true hb,if_pos hb]
   exact WR.mono (Jhr hi hm r _ h2 (x.trans x2) (by omega)) λ v h' ⟨a,c⟩=>⟨a,x2.trans c⟩
  ·rw[decide_eq_false hb,if_neg hb]
   exact WR.mono (Jhr hi hm r _ h2 (x.trans x2) (by omega)) λ v h' ⟨a,c⟩=>⟨a,x2.trans c⟩
def Yb (kf:IV->Int)(d:IV):List IV->IV
 | []=>d
 | y::r=>Qz kf y r
theorem Juv {d:IV}(hi:h[i]?=Za (.lst ys))(hm:∀y∈ys,∀h',Ex h h'->WR (mk y h') λ v h2=>v=.int (kf y)/\Ex h' h2) :
  WR (X1 gtZ mk i d h) λ v h'=>v=Yb kf d ys/\Ex h h':=by
 unfold X1
 rw[hi]
 dsimp only
 cases ys with
 | nil=>exact⟨rfl,.refl _⟩
 | cons y r =>
  obtain⟨v,h2,e,rfl,x2⟩:=(hm y Z4 h (.refl _)).eq
  show WR ((mk y h).nx.bind λ k h'=>Qa gtZ mk i (y::r).length ((y::r).length-1) y k h') _
  rw[e]
  have:=Jhr (kf:=kf) (x2.get hi) (λ z hz h' x=>hm z hz h' (x2.trans x)) ((y::r).length-1) y h2 (.refl _) (by simp)
  refine WR.mono this λ v h' ⟨a,c⟩=>⟨?_,x2.trans c⟩
  rw[a]
  simp[Yb]
section
variable {α β:Type}{σ:ISt}{h:IH}
variable {Q:α->IH->Prop}{Z:Nat->IH->Prop}{N:ISt->IH->Prop}{R:IV->IH->Prop}{Y:Nat->ISt->IH->Prop}
theorem Jyv {Q:IV->IH->Prop}(x:Str)(lo hi:Option Int):WR (slT (.str x) lo hi h) Q=(x.length<=sizeLine/\Q (.str (Zel x lo hi)) h):=by
 unfold slT;by_cases z:x.length<=sizeLine<;>simp[WR,z]
end
theorem Jhg:∀{a b c:List Int},ltL a b=Zh->ltL b c=Zh->ltL a c=Zh
 | a::as,b::bs,c::cs,h1,h2=>by
  unfold ltL at h1 h2 ⊢
  by_cases e1:a=b
  ·rw[if_pos e1] at h1
   subst e1
   by_cases e2:a=c
   ·rw[if_pos e2] at h2 ⊢
    exact Jhg h1 h2
   ·rw[if_neg e2] at h2 ⊢
    exact h2
  ·rw[if_neg e1,decide_eq_true_eq] at h1
   by_cases e2:b=c
   ·subst e2
    rw[if_neg e1,decide_eq_true_eq]
    exact h1
   ·rw[if_neg e2,decide_eq_true_eq] at h2
    rw[if_neg (by omega),decide_eq_true_eq]
    omega
 | [],_,_,h,_=>by simp[ltL] at h
 | _::_,[],_,h,_=>by simp[ltL] at h
 | _::_,_::_,[],_,h=>by simp[ltL] at h
theorem Yq:∀a:List Int,ltL a a=Zk
 | []=>rfl
 | a::as=>by
  unfold ltL
  rw[if_pos rfl]
  exact Yq as
theorem Jtk {as bs:List Int}(h:as.length=bs.length):ltT (.tup (as.map .int)) (.tup (bs.map .int))=Za (ltL as bs):=by
 unfold ltT
 dsimp only
 rw[Vx,Vx]
 dsimp only
 rw[if_pos h]
section
variable {mk:IV->IH->Res IV}{kf:IV->List Int}{i n:Nat}{ys:List IV}
theorem Jfo (hi:h0[i]?=Za (.lst ys))(hm:∀y∈ys,∀h,Ex h0 h->WR (mk y h) λ v h'=>v=.tup ((kf y).map .int)/\Ex h h')(hl:∀y∈ys,(kf y).length=n) :
  ∀(r:Nat)(b:IV)(h:IH),Ex h0 h->r<ys.length->b∈ys->(∀y∈ys.take (ys.length-r),ltL (kf y) (kf b)=Zk)->WR (Qa ltT mk i ys.length r b (.tup ((kf b).map .int)) h) λ v h'=>v∈ys/\(∀y∈ys,ltL (kf y) (kf v)=Zk)/\Ex h h'
 | 0,b,h,x,_,hb,q=>by
  unfold Qa
  rw[x.get hi]
  dsimp only
  rw[if_pos rfl]
  rw[Nat.sub_zero,ZdE] at q
  exact⟨hb,q,.refl _⟩
 | r+1,b,h,x,hr,hb,q=>by
  unfold Qa
  rw[x.get hi]
  dsimp only
  rw[if_pos rfl]
  have hlt:ys.length-(r+1)<ys.length:=by omega
  rw[Zb hlt]
  dsimp only
  have hy:=Z5 hlt
  have ht:ys.take (ys.length-r)=ys.take (ys.length-(r+1))++[ys[ys.length-(r+1)]]:=by
   rw[<- ZaC hlt,show ys.length-(r+1)+1=ys.length-r by omega]
  generalize ys[ys.length-(r+1)]=y at hy ht
  obtain⟨v,h2,e,rfl,x2⟩:=(hm y hy h x).eq
  rw[e]
  show WR (match ltT (.tup ((kf y).map .int)) (.tup ((kf b).map .int)) with|some Zh=>_|some Zk=>_|none=>_) _
  rw[Jtk (by rw[hl y hy,hl b hb])]
  cases c:ltL (kf y) (kf b) with
  | true =>
   refine WR.mono (Jfo hi hm hl r y h2 (x.trans x2) (by omega) hy λ z hz=>?_) λ v h' ⟨a,d,g⟩=>⟨a,d,x2.trans g⟩
   rw[ht] at hz
   rcases ZL.mp hz with hz|hz
   ·cases zc:ltL (kf z) (kf y) with
    | false=>rfl
    | true=>exact absurd (Jhg zc c) (by rw[q z hz];exact Zt)
   ·rw[Zv.mp hz]
    exact Yq _
  | false =>
   refine WR.mono (Jfo hi hm hl r b h2 (x.trans x2) (by omega) hb λ z hz=>?_) λ v h' ⟨a,d,g⟩=>⟨a,d,x2.trans g⟩
   rw[ht] at hz
   rcases ZL.mp hz with hz|hz
   ·exact q z hz
   ·rw[Zv.mp hz]
    exact c
theorem Jsd (hi:h[i]?=Za (.lst ys))(ne:ys≠[])(hm:∀y∈ys,∀h',Ex h h'->WR (mk y h') λ v h2=>v=.tup ((kf y).map .int)/\Ex h' h2)(hl:∀y∈ys,(kf y).length=n) :
  WR (X2 ltT mk i h) λ v h'=>v∈ys/\(∀y∈ys,ltL (kf y) (kf v)=Zk)/\Ex h h':=by
 unfold X2
 rw[hi]
 dsimp only
 cases ys with
 | nil=>exact absurd rfl ne
 | cons y r =>
  obtain⟨v,h2,e,rfl,x2⟩:=(hm y Z4 h (.refl _)).eq
  show WR ((mk y h).nx.bind λ k h'=>Qa ltT mk i (y::r).length ((y::r).length-1) y k h') _
  rw[e]
  refine WR.mono (Jfo (kf:=kf) (x2.get hi) (λ z hz h' x=>hm z hz h' (x2.trans x)) hl ((y::r).length-1) y h2 (.refl _) (by simp) Z4 λ z hz=>?_) λ v h' ⟨a,d,g⟩=>⟨a,d,x2.trans g⟩
  rw[show(y::r).length-((y::r).length-1)=1 by simp,List.take_succ_cons,List.take_zero,Zv] at hz
  rw[hz]
  exact Yq _
theorem Jyu {js:List Nat}{m:E1}{Q:IV->IH->Prop}(hj:h[j]?=Za (.tab q))(hi:σ[i]?=Za (Za (.ref a))) :
  WR (Xu ltT q j js (Jb (Ja i) Jd) m σ h) Q=WR (X2 ltT (λ v h'=>m (Za v::js.map λ j=>(σ[j]?).join) h') a h) Q:=by
 have e:Jb (Ja i) Jd σ h=.ok [.ref a] h:=by
  unfold Jb Ja Jd
  rw[hi]
  rfl
 unfold Xu
 rw[e]
 show WR (match h[j]? with|some (.tab q')=>_|_=>_) Q=_
 rw[hj]
 dsimp only
 rw[if_pos rfl]
end
end L4
namespace LW
theorem Kaz {α:Sort _}{p:α->Prop}{a':α}:(∃a,a'=a/\p a)↔p a':=exists_eq_left'
theorem Kbz {α:Sort _}{p:α->Prop}{a':α}:(∃a,a=a'/\p a)↔p a':=exists_eq_left
theorem Kcz (a b:Bool):(L3.IV.bl a=L3.IV.bl b)=(a=b):=L3.IV.bl.injEq a b
theorem Kdz (a b:Int):(L3.IV.int a=L3.IV.int b)=(a=b):=L3.IV.int.injEq a b
theorem Kez (a b:Nat):(L3.IV.ref a=L3.IV.ref b)=(a=b):=L3.IV.ref.injEq a b
theorem Kfz (a b:PySem.Str):(L3.IV.str a=L3.IV.str b)=(a=b):=L3.IV.str.injEq a b
theorem Kgz (a b:List L3.IV):(L3.IV.tup a=L3.IV.tup b)=(a=b):=L3.IV.tup.injEq a b
theorem Khz (a b:List L3.IV):(L3.IX.lst a=L3.IX.lst b)=(a=b):=L3.IX.lst.injEq a b
theorem Kiz {α:Type _}(a b:α):(Za a=Za b)=(a=b):=Zbe a b
theorem Kjz:(!true)=Zk:=Zcs
theorem Kkz:(!false)=Zh:=Zch
theorem Klz:(Zh=Zk)=False:=Zbx
theorem Kmz:(Zk=Zh)=False:=ZW
theorem Knz {α β:Type _}(a:α)(f:α->Option β):(Za a).bind f=f a:=ZbN a f
theorem Koz (p:Prop):(True->p)=p:=true_implies p
theorem Kpz (p:Prop):(False->p)=True:=false_implies p
theorem Kqz (α:Sort _):(α->True)=True:=implies_true α
theorem Krz {α:Type _}{a b:α}{l:List α}{n:Nat}:(a::l).set (n+1) b=a::l.set n b:=Zc0
theorem Ksz {α:Type _}{a b:α}{l:List α}:(a::l).set 0 b=b::l:=Zbw
theorem Ktz {α:Type _}{a:α}{l m:List α}:(a::l)++m=a::(l++m):=Zan
theorem Kuz {α:Type _}(l:List α):[]++l=l:=Zaw l
theorem Kvz {α:Type _}(l:List α):l++[]=l:=Za4 l
end LW
namespace LW
open PySem L2 L3 L4
noncomputable def top (i:Nat):Zdh:=PySem.Challenge.pw_dutyproof_k38_held_up_no_longer_than_tol.main.body.getD i (.Pass ⟨0,0,0,0⟩)
def Jc7:D4:=⟨top 8,"is_whole",["thing"],["thing"],[]⟩
def Jag:D4:=⟨top 9,"is_whole_from",["thing","least"],["thing","least"],[]⟩
def Jb8:D4:=⟨top 10,"rounds_up",["top","bottom"],["top","bottom"],[]⟩
def Ji6:D4:=⟨top 17,"ready",["coming"],["coming"],[]⟩
def Jb1:D4:=⟨top 18,"is_coming",["duty","thing"],["duty","thing","work"],[]⟩
def Jaw:D4:=⟨top 19,"first_wrong",["duty","row"],["duty","row","last_come","place","coming","at"],[]⟩
def Jeu:D4:=⟨top 20,"checked",["duty","row"],["duty","row","wrong"],[]⟩
def Jex:D4:=⟨top 27,"is_name",["thing"],["thing"],[]⟩
def Jew:D4:=⟨top 28,"is_hold",["hold","length"],["hold","length"],[]⟩
def Jb4:D4:=⟨top 29,"lie_apart",["one","other"],["one","other"],[]⟩
def Jez:D4:=⟨top 30,"lies_in",["one","other"],["one","other"],[]⟩
def Jax:D4:=⟨top 31,"go_together",["one","other"],["one","other"],[]⟩
def Jac:D4:=⟨top 32,"all_go_together",["holds"],["holds","place","hold"],[]⟩
def Jb6:D4:=⟨top 33,"own_holds",["holds","length"],["holds","length"],[]⟩
def Je0:D4:=⟨top 34,"own_due",["due","gap"],["due","gap"],[]⟩
def Qn:D4:=⟨JR (top 35) 0,"Work.__init__",["self","name","gap","length","due","late","holds"],["self","name","gap","length","due","late","holds"],[.non,.int 0,.non]⟩
def Jb0:D4:=⟨JR (top 35) 1,"Work.held",["self"],["self"],[]⟩
def Jb5:D4:=⟨top 39,"next_stop",["work","done","length"],["work","done","length"],[]⟩
def Jba:D4:=⟨JR (top 40) 0,"Bench.__init__",["self","order","row"],["self","order","row"],[]⟩
def Jaa:D4:=⟨JR (top 40) 1,"Bench.next_ready",["self"],["self"],[]⟩
def Jak:D4:=⟨JR (top 40) 2,"Bench.let_in",["self"],["self"],[]⟩
def Jab:D4:=⟨JR (top 40) 3,"Bench.turns_for",["self","place"],["self","place","coming","done","turns"],[]⟩
def Jbb:D4:=⟨JR (top 40) 4,"Bench.tell",["self","place","until"],["self","place","until","begin"],[]⟩
def Jau:D4:=⟨JR (top 40) 5,"Bench.go_on",["self"],["self","place","turns"],[]⟩
def Jsq:D4:=⟨top 41,"run",["order","row"],["order","row","bench"],[]⟩
def Jb7:D4:=⟨top 45,"own_works",["works"],["works"],[]⟩
def Jc6:D4:=⟨top 46,"crowd_of",["works"],["works","greatest"],[]⟩
def Jbw:D4:=⟨JR (top 47) 0,"Duty.__init__",["self","works"],["self","works"],[]⟩
def Jbx:D4:=⟨JR (top 47) 1,"Duty.size",["self"],["self"],[]⟩
def Jby:D4:=⟨JR (top 47) 2,"Duty.work",["self","at"],["self","at"],[]⟩
def Jcy:D4:=⟨JR (top 47) 4,"Duty.crowd",["self"],["self"],[]⟩
def Jc5:D4:=⟨top 49,"ceilings",["duty"],["duty","found","at","hold"],[]⟩
def Ja0:D4:=⟨top 50,"things_held",["work","done"],["work","done"],[]⟩
def Jf8:D4:=⟨top 51,"lifted",["at","things","tops"],["at","things","tops"],[]⟩
def Jbf:D4:=⟨top 52,"turns_held",["hold"],["hold"],[]⟩
def Jam:D4:=⟨top 53,"longest_hold",["duty","at"],["duty","at","tops","found","weaker"],[]⟩
def Jev:D4:=⟨top 54,"hold_up",["duty","at"],["duty","at","longest"],[]⟩
def Jbc:D4:=⟨JR (top 56) 0,"Order.__init__",["self","duty"],["self","duty"],[]⟩
def Ja4:D4:=⟨JR (top 56) 1,"Order.rank_of",["self","coming","done"],["self","coming","done"],[]⟩
def Jbz:D4:=⟨JR (top 56) 2,"Order.holds",["self","coming","done"],["self","coming","done"],[]⟩
def Xr:D4:=⟨JR (top 56) 3,"Order.pick",["self","row","waiting","dones"],["self","row","waiting","dones"],[]⟩
def Xs:D4:=⟨JR (top 56) 4,"Order.standing",["self","coming","done"],["self","coming","done"],[]⟩
def Jav:D4:=⟨JR (top 57) 0,"ByRank.__init__",["self","duty"],["self","duty"],[]⟩
def Jad:D4:=⟨JR (top 57) 1,"ByRank.rank_of",["self","coming","done"],["self","coming","done"],[]⟩
def Jal:D4:=⟨JR (top 57) 2,"ByRank.holds",["self","coming","done"],["self","coming","done"],[]⟩
def Jay:D4:=⟨top 59,"_law_cell_at",["_law_script","_law_k"],["_law_script","_law_k"],[]⟩
def Jbd:D4:=⟨top 60,"_law_stream",["_law_cell","_law_many"],["_law_cell","_law_many","_law_found","_law_rest","_law_k","_law_number"],[]⟩
def Jc9:D4:=⟨top 61,"_law_word",["_law_cell","_law_k"],["_law_cell","_law_k","_law_letters","_law_size","_law_word_here","_law_at"],[]⟩
def Jb2:D4:=⟨top 62,"_law_holds",["_law_xs","_law_length","_law_words"],["_law_xs","_law_length","_law_words","_law_p","_law_one","_law_turn","_law_other","_law_third","_law_some_here"],[]⟩
def Jb3:D4:=⟨top 63,"_law_plain",["_law_cell","_law_unit","_law_words"],["_law_cell","_law_unit","_law_words","_law_xs","_law_gap","_law_due","_law_late","_law_length","_law_holds_here"],[]⟩
def Jc8:D4:=⟨top 64,"_law_some",["_law_script","_law_held"],["_law_script","_law_held","_law_first","_law_unit","_law_second","_law_words","_law_some_here","_law_k","_law_plain_here"],[]⟩
def Jey:D4:=⟨top 65,"_law_row",["_law_cells","_law_some_here"],["_law_cells","_law_some_here","_law_row_here","_law_last","_law_base","_law_cell","_law_xs","_law_at","_law_name","_law_gap","_law_length","_law_due","_law_late","_law_holds_here","_law_wait","_law_come"],[]⟩
def Jaz:D4:=⟨top 66,"_law_longest",["_law_some_here","_law_at"],["_law_some_here","_law_at","_law_things","_law_one","_law_longest_here","_law_thing","_law_start","_law_end"],[]⟩
def Jbe:D4:=⟨top 67,"_law_weaker",["_law_row_here","_law_found","_law_place"],["_law_row_here","_law_found","_law_place","_law_since","_law_last","_law_total","_law_k","_law_begin","_law_until"],[]⟩
def QP:D4:=⟨top 68,"law",["_law_script"],["_law_script","_law_some_here","_law_duty","_law_row_here","_law_found","_law_place","_law_at","_law_weaker_here"],[]⟩
def T:Tab where
 fns:=[(("is_whole":Str),Jc7),(("is_whole_from":Str),Jag),(("rounds_up":Str),Jb8),(("ready":Str),Ji6),(("is_coming":Str),Jb1),(("first_wrong":Str),Jaw),(("checked":Str),Jeu),(("is_name":Str),Jex),(("is_hold":Str),Jew),(("lie_apart":Str),Jb4),(("lies_in":Str),Jez),(("go_together":Str),Jax),(("all_go_together":Str),Jac),(("own_holds":Str),Jb6),(("own_due":Str),Je0),(("next_stop":Str),Jb5),(("run":Str),Jsq),(("own_works":Str),Jb7),(("crowd_of":Str),Jc6),(("ceilings":Str),Jc5),(("things_held":Str),Ja0),(("lifted":Str),Jf8),(("turns_held":Str),Jbf),(("longest_hold":Str),Jam),(("hold_up":Str),Jev),(("_law_cell_at":Str),Jay),(("_law_stream":Str),Jbd),(("_law_word":Str),Jc9),(("_law_holds":Str),Jb2),(("_law_plain":Str),Jb3),(("_law_some":Str),Jc8),(("_law_row":Str),Jey),(("_law_longest":Str),Jaz),(("_law_weaker":Str),Jbe),(("law":Str),QP)]
 clss:=[("Work",Qn),("Bench",Jba),("Duty",Jbw),("Order",Jbc),("ByRank",Jav)]
 meths:=[("Work",([("held",Jb0)]:List (Str×D4))),("Bench",([("next_ready",Jaa),("let_in",Jak),("turns_for",Jab),("tell",Jbb),("go_on",Jau)]:List (Str×D4))),("Duty",([("size",Jbx),("work",Jby),("crowd",Jcy)]:List (Str×D4))),("Order",([("rank_of",Ja4),("holds",Jbz),("pick",Xr),("standing",Xs)]:List (Str×D4))),("ByRank",([("rank_of",Jad),("holds",Jal),("pick",Xr),("standing",Xs)]:List (Str×D4)))]
 cons:=[("MOST_COMINGS",.int 200),("AT",.int 0),("COME",.int 1),("LATE",.int 2),("LENGTH",.int 3),("MOST_LETTERS",.int 8),("MOST_HOLDS",.int 6),("THING",.int 0),("START",.int 1),("END",.int 2),("PLACE",.int 0),("FROM",.int 1),("MOST_WORKS",.int 12),("MOST_CROWD",.int 80)]
 isas:=[("Work",["Work"])]
 flds:=["append","dones","due","duty","extend","gap","hold_tuples","join","late","later","length","name","order","place","pop","remove","row","setdefault","stretches","tops","turn","waiting","works"]
 frees:=["all","bool","enumerate","int","isinstance","len","list","max","min","range","set","sorted","str","sum","tuple"]
 tabs:=["Order.pick","longest_hold","Bench.__init__"]
 bass:=["Order"]
abbrev pg (k:Nat):Pg:=mkPg T (run T k)
section
variable (k:Nat)(x0 x1 x2 x3 x4 x5 x6:IV)(h:IH)
abbrev Jc2:=run T k Jc7
abbrev Vp:=run T k Jag
abbrev Jdv:=run T k Jb8
abbrev Jis:=run T k Ji6
abbrev Jdp:=run T k Jb1
abbrev Jbs:=run T k Jaw
abbrev Jgk:=run T k Jeu
abbrev Jd0:=run T k Jex
abbrev Jgm:=run T k Jew
abbrev Jds:=run T k Jb4
abbrev Jd1:=run T k Jez
abbrev Jbt:=run T k Jax
abbrev Jai:=run T k Jac
abbrev XW:=run T k Jb6
abbrev XV:=run T k Je0
abbrev Jbr:=run T k Qn
abbrev Jdo:=run T k Jb0
abbrev Jdt:=run T k Jb5
abbrev Jcf:=run T k Jba
abbrev Jae:=run T k Jaa
abbrev Jbh:=run T k Jak
abbrev Jah:=run T k Jab
abbrev Jcg:=run T k Jbb
abbrev Jbp:=run T k Jau
abbrev Jwd:=run T k Jsq
abbrev Jdu:=run T k Jb7
abbrev Jfc:=run T k Jc6
abbrev Jbq:=run T k Jbw
abbrev Jdm:=run T k Jbx
abbrev Jdn:=run T k Jby
abbrev Jc1:=run T k Jc5
abbrev Jas:=run T k Ja0
abbrev Jir:=run T k Jf8
abbrev Ja7:=run T k Jbf
abbrev Jbj:=run T k Jam
abbrev Jgl:=run T k Jev
abbrev Jch:=run T k Jbc
abbrev Ja5:=run T k Xr
abbrev Jap:=run T k Xs
abbrev Jar:=run T k Jav
abbrev Jao:=run T k Jad
abbrev Jbi:=run T k Jal
abbrev XU:=run T k Jay
abbrev Ja6:=run T k Jbd
abbrev Jc3:=run T k Jc9
abbrev Jdq:=run T k Jb2
abbrev Jdr:=run T k Jb3
abbrev Jfd:=run T k Jc8
abbrev Jgn:=run T k Jey
abbrev Jbu:=run T k Jaz
abbrev Jci:=run T k Jbe
abbrev Xn:=run T k QP
def Jkb (k:Nat):S1:=(Jm (eAnd (eIsi VA (Ja 0)) (eUn (X6 tru) (eIsi V9 (Ja 0))) tru))
theorem Jma:Jc2 (k+1) [x0] h=(Jkb k [Za x0] h).fin:=by kernel_rfl
def Jbl:S1:=(Jm (eAnd (Jn (Jc2 k) [] (Jb (Ja 0) Jd)) (Jc cGe (Ja 0) (Ja 1)) tru))
theorem Jf3:Vp (k+1) [x0,x1] h=(Jbl k [Za x0,Za x1] h).fin:=by kernel_rfl
def Jer (k:Nat):S1:=(Jm (Jc JO (Jc Qe (Jc Jl (Ja 0) (Ja 1)) (eC (.int 1))) (Ja 1)))
theorem Jk3:Jdv (k+1) [x0,x1] h=(Jer k [Za x0,Za x1] h).fin:=by kernel_rfl
def Jps (k:Nat):S1:=(Jm (Jc Jl (Jc Jf (Ja 0) (eC (.int 1))) (Jc Jf (Ja 0) (eC (.int 2)))))
theorem Js1:Jis (k+1) [x0] h=(Jps k [Za x0] h).fin:=by kernel_rfl
def Ja3:E1:=(Jn (Jc2 k) [] (Jb (Ja 0) Jd))
def Jix:S1:=Jg (sIf (tOrI (JD (Jh tru (eIsi Vu (Ja 1)))) (Jh asB (Jc cNe (eCB (on1 lenI) (Jb (Ja 1) Jd)) (eC (.int 4))))) (Jm (eC (.bl Zk))) Js) (Jg (sIf (JD (Jh tru (eCB (on1 allI) (Jb (Jz (Jw (Ja 1)) 1 [] (gNm 0) JC (Ja3 k)) Jd)))) (Jm (eC (.bl Zk))) Js) (Jg (sIf (tOrI (JD (Jh asB (JT cLe cLt (eC (.int 0)) (Jc Jf (Ja 1) (eC (.int 0))) (Jo (pg k) "size" 0 (Ja 0) Jd)))) (Jh asB (Jc cLt (Jc Jf (Ja 1) (eC (.int 1))) (eC (.int 0))))) (Jm (eC (.bl Zk))) Js) (Jg (Ji 2 (Jo (pg k) "work" 1 (Ja 0) (Jb (Jc Jf (Ja 1) (eC (.int 0))) Jd))) (Jm (eAnd (JT cLe cLe (eC (.int 0)) (Jc Jf (Ja 1) (eC (.int 2))) (Jp "late" (Ja 2))) (JT cLe cLe (eC (.int 1)) (Jc Jf (Ja 1) (eC (.int 3))) (Jp "length" (Ja 2))) tru)))))
theorem Jkw:Jdp (k+1) [x0,x1] h=(Jix k [Za x0,Za x1,Zc] h).fin:=by kernel_rfl
def Jgq:S1:=Jg (Ji 2 Xt) (Jg (sFor (iRg QS (Jb (Ja 1) Jd)) (gTp 2 (gC (gNm 3) (gC (gNm 4) gN))) (Jg (sIf (JD (Jh tru (Jn (Jdp k) [] (Jb (Ja 0) (Jb (Ja 4) Jd))))) (Jm (Ja 3)) Js) (Jg (Ji 5 (Jc Jf (Ja 4) (eC (.int 0)))) (Jg (sIf (QK (Jh asB (Jc cInD (Ja 5) (Ja 2))) (Jh asB (Jc cLt (Jc Qe (Jc Jf (Ja 4) (eC (.int 1))) (Jc QF (Ja 2) (Ja 5))) (Jp "gap" (Jo (pg k) "work" 1 (Ja 0) (Jb (Ja 5) Jd)))))) (Jm (Ja 3)) Js) (sAsg (Jc Jf (Ja 4) (eC (.int 1))) (gSbD (Ja 2) (Ja 5))))))) (Jm (eC .non)))
theorem Jh3:Jbs (k+1) [x0,x1] h=(Jgq k [Za x0,Za x1,Zc,Zc,Zc,Zc] h).fin:=by kernel_rfl
def Jl0:S1:=Jg (sIf (Jh asB (Jc cGt (eCB (on1 lenI) (Jb (Ja 1) Jd)) (eC (.int 200)))) stS Js) (Jg (Ji 2 (Jn (Jbs k) [] (Jb (Ja 0) (Jb (Ja 1) Jd)))) (sIf (Jh asB (Jc Jm1 (Ja 2) (eC .non))) stS Js))
theorem Joi:Jgk (k+1) [x0,x1] h=(Jl0 k [Za x0,Za x1,Zc] h).fin:=by kernel_rfl
def Jbv (k:Nat):E1:=(JT cLe cLe (eC (.str "a")) (Ja 0) (eC (.str "z")))
def Jgv:S1:=(Jm (eCB (on1 allI) (Jb (Jz (Jw (Ja 0)) 1 [] (gNm 0) JC (Jbv k)) Jd)))
def Jgu:S1:=Jg (sIf (tOrI (JD (Jh tru (eIsi VC (Ja 0)))) (JD (Jh asB (JT cLe cLe (eC (.int 1)) (eCB (on1 lenI) (Jb (Ja 0) Jd)) (eC (.int 8)))))) (Jm (eC (.bl Zk))) Js) (Jgv k)
theorem Jol:Jd0 (k+1) [x0] h=(Jgu k [Za x0] h).fin:=by kernel_rfl
def Jgt:S1:=(Jm (eAnd (Jn (Vp k) [] (Jb (Jc Jf (Ja 0) (eC (.int 2))) (Jb (Jc Jl (Jc Jf (Ja 0) (eC (.int 1))) (eC (.int 1))) Jd))) (Jc cLt (Jc Jf (Ja 0) (eC (.int 2))) (Ja 1)) tru))
def Jgs:S1:=Jg (sIf (JD (Jh tru (Jn (Vp k) [] (Jb (Jc Jf (Ja 0) (eC (.int 1))) (Jb (eC (.int 0)) Jd))))) (Jm (eC (.bl Zk))) Js) (Jgt k)
def Jgr:S1:=Jg (sIf (tOrI (JD (Jh tru (eIsi Vu (Ja 0)))) (tOrI (Jh asB (Jc cNe (eCB (on1 lenI) (Jb (Ja 0) Jd)) (eC (.int 3)))) (JD (Jh tru (Jn (Jd0 k) [] (Jb (Jc Jf (Ja 0) (eC (.int 0))) Jd)))))) (Jm (eC (.bl Zk))) Js) (Jgs k)
theorem Jok:Jgm (k+1) [x0,x1] h=(Jgr k [Za x0,Za x1] h).fin:=by kernel_rfl
def Jeg (k:Nat):S1:=(Jm (eOr (Jc cLe (Jc Jf (Ja 0) (eC (.int 2))) (Jc Jf (Ja 1) (eC (.int 1)))) (Jc cLe (Jc Jf (Ja 1) (eC (.int 2))) (Jc Jf (Ja 0) (eC (.int 1)))) tru))
theorem Jkz:Jds (k+1) [x0,x1] h=(Jeg k [Za x0,Za x1] h).fin:=by kernel_rfl
def Jgx (k:Nat):S1:=(Jm (eAnd (Jc cLe (Jc Jf (Ja 1) (eC (.int 1))) (Jc Jf (Ja 0) (eC (.int 1)))) (Jc cLe (Jc Jf (Ja 0) (eC (.int 2))) (Jc Jf (Ja 1) (eC (.int 2)))) tru))
theorem Jon:Jd1 (k+1) [x0,x1] h=(Jgx k [Za x0,Za x1] h).fin:=by kernel_rfl
def Jcn:S1:=(Jm (eOr (Jn (Jd1 k) [] (Jb (Ja 0) (Jb (Ja 1) Jd))) (Jn (Jd1 k) [] (Jb (Ja 1) (Jb (Ja 0) Jd))) tru))
def Jcm:S1:=Jg (sIf (Jh asB (Jc cEq (Jc Jf (Ja 0) (eC (.int 0))) (Jc Jf (Ja 1) (eC (.int 0))))) (Jm (eC (.bl Zk))) Js) (Jcn k)
def Jcl:S1:=Jg (sIf (Jh tru (Jn (Jds k) [] (Jb (Ja 0) (Jb (Ja 1) Jd)))) (Jm (eC (.bl Zh))) Js) (Jcm k)
theorem Jh4:Jbt (k+1) [x0,x1] h=(Jcl k [Za x0,Za x1] h).fin:=by kernel_rfl
def Jan:E1:=(Jn (Jbt k) [] (Jb (Ja 1) (Jb (Ja 0) Jd)))
def Jaq:S1:=(sIf (JD (Jh tru (eCB (on1 allI) (Jb (Jz (Jw (eSl slI (Ja 0) QU (Qg (Ja 1)))) 1 [2] (gNm 0) JC (Jan k)) Jd)))) (Jm (eC (.bl Zk))) Js)
def Ja2 (k:Nat):S1:=(Jm (eC (.bl Zh)))
def Ja1:S1:=Jg (sFor (iRg QS (Jb (Ja 0) Jd)) (gTp 2 (gC (gNm 1) (gC (gNm 2) gN))) (Jaq k)) (Ja2 k)
theorem Je4:Jai (k+1) [x0] h=(Ja1 k [Za x0,Zc,Zc] h).fin:=by kernel_rfl
def Jct:E1:=(Jn (Jgm k) [] (Jb (Ja 0) (Jb (Ja 1) Jd)))
def Jcu (k:Nat):E1:=(JA (Jb (Jc Jf (Ja 0) (eC (.int 0))) (Jb (Jc Jf (Ja 0) (eC (.int 1))) (Jb (Jc Jf (Ja 0) (eC (.int 2))) Jd))))
def Jem:S1:=(Jm (eCB (on1 Xg) (Jb (Jz (Jw (Ja 0)) 1 [] (gNm 0) JC (Jcu k)) Jd)))
def Jel:S1:=Jg (sIf (JD (Jh tru (Jn (Jai k) [] (Jb (Ja 0) Jd)))) stS Js) (Jem k)
def Jek:S1:=Jg (sIf (JD (Jh tru (eCB (on1 allI) (Jb (Jz (Jw (Ja 0)) 1 [1] (gNm 0) JC (Jct k)) Jd)))) stS Js) (Jel k)
def Jej:S1:=Jg (sIf (Jh asB (Jc cGt (eCB (on1 lenI) (Jb (Ja 0) Jd)) (eC (.int 6)))) stS Js) (Jek k)
def Jei:S1:=Jg (sIf (JD (Jh tru (eIsi Ve (Ja 0)))) stS Js) (Jej k)
def Jeh:S1:=Jg (sIf (Jh asB (Jc cIs (Ja 0) (eC .non))) (Jm (JA Jd)) Js) (Jei k)
theorem Jk1:XW (k+1) [x0,x1] h=(Jeh k [Za x0,Za x1] h).fin:=by kernel_rfl
def Jg0 (k:Nat):S1:=(Jm (Ja 0))
def Jgz:S1:=Jg (sIf (tOrI (JD (Jh tru (Jn (Vp k) [] (Jb (Ja 0) (Jb (eC (.int 1)) Jd))))) (Jh asB (Jc cGt (Ja 0) (Ja 1)))) stS Js) (Jg0 k)
def Jgy:S1:=Jg (sIf (Jh asB (Jc cIs (Ja 0) (eC .non))) (Jm (Ja 1)) Js) (Jgz k)
theorem Joo:XV (k+1) [x0,x1] h=(Jgy k [Za x0,Za x1] h).fin:=by kernel_rfl
def Jeb:S1:=(JM "hold_tuples" (Ja 0) (Jn (XW k) [] (Jb (Ja 6) (Jb (Ja 3) Jd))))
def Jiw:S1:=Jg (sIf (JD (Jh tru (Jn (Jd0 k) [] (Jb (Ja 1) Jd)))) stS Js) (Jg (sIf (JD (Jh tru (Jn (Vp k) [] (Jb (Ja 2) (Jb (eC (.int 1)) Jd))))) stS Js) (Jg (sIf (JD (Jh tru (Jn (Vp k) [] (Jb (Ja 3) (Jb (eC (.int 1)) Jd))))) stS Js) (Jg (sIf (JD (Jh tru (Jn (Vp k) [] (Jb (Ja 5) (Jb (eC (.int 0)) Jd))))) stS Js) (Jg (JM "name" (Ja 0) (Ja 1)) (Jg (JM "gap" (Ja 0) (Ja 2)) (Jg (JM "length" (Ja 0) (Ja 3)) (Jg (JM "due" (Ja 0) (Jn (XV k) [] (Jb (Ja 4) (Jb (Ja 2) Jd)))) (Jg (JM "late" (Ja 0) (Ja 5)) (Jeb k)))))))))
theorem Jkv:Jbr (k+1) [x0,x1,x2,x3,x4,x5,x6] h=(Jiw k [Za x0,Za x1,Za x2,Za x3,Za x4,Za x5,Za x6] h).fin:=by kernel_rfl
def Jea (k:Nat):S1:=(Jm (eCB (on1 Vh) (Jb (Jp "hold_tuples" (Ja 0)) Jd)))
theorem Jku:Jdo (k+1) [x0] h=(Jea k [Za x0] h).fin:=by kernel_rfl
def Ji0:S1:=(Jm (eCB (on1 Xa) (Jb (Jc Jl (J0 (Jb (Ja 2) Jd)) (Jz (Jw (Jo (pg k) "held" 0 (Ja 0) Jd)) 1 [1] (gNm 0) (Jh asB (Jc cGt (Jc Jf (Ja 0) (eC (.int 2))) (Ja 1))) (Jc Jf (Ja 0) (eC (.int 2))))) Jd)))
theorem Jk0:Jdt (k+1) [x0,x1,x2] h=(Ji0 k [Za x0,Za x1,Za x2] h).fin:=by kernel_rfl
def Xq:E1:=(Jn (Jis k) [] (Jb (Jc Jf (Ja 1) (Ja 0)) Jd))
def Jdd (k:Nat):S1:=(JM "stretches" (Ja 0) (J0 Jd))
def Jht:S1:=Jg (JM "order" (Ja 0) (Ja 1)) (Jg (JM "row" (Ja 0) (Ja 2)) (Jg (JM "dones" (Ja 0) (Jz (Jw (Ja 2)) 1 [] (gNm 0) JC (eC (.int 0)))) (Jg (JM "later" (Ja 0) (Yi "Bench.__init__" 2 [2] (Jb (eCB (on1 lenI) (Jb (Ja 2) Jd)) Jd) (Xq k))) (Jg (JM "waiting" (Ja 0) (J0 Jd)) (Jg (JM "turn" (Ja 0) (eC (.int 0))) (Jdd k))))))
theorem Ji9:Jcf (k+1) [x0,x1,x2] h=(Jht k [Za x0,Za x1,Za x2] h).fin:=by kernel_rfl
def Jdc:S1:=(Jm (Jn (Jis k) [] (Jb (Jc Jf (Jp "row" (Ja 0)) (Jc Jf (Jp "later" (Ja 0)) (eUn Yw (eC (.int 1))))) Jd)))
theorem Jdy:Jae (k+1) [x0] h=(Jdc k [Za x0] h).fin:=by kernel_rfl
def Jcb:S1:=(Xd (QK (Jh asB (Jc cGt (eCB (on1 lenI) (Jb (Jp "later" (Ja 0)) Jd)) (eC (.int 0)))) (Jh asB (Jc cLe (Jo (pg k) "next_ready" 0 (Ja 0) Jd) (Jp "turn" (Ja 0))))) (JL (Jo (pg k) "append" 1 (Jp "waiting" (Ja 0)) (Jb (Jo (pg k) "pop" 0 (Jp "later" (Ja 0)) Jd) Jd))))
def Jf0:S1:=Jg (sIf (Jh asB (Jc cEq (eCB (on1 lenI) (Jb (Jp "waiting" (Ja 0)) Jd)) (eC (.int 0)))) (JM "turn" (Ja 0) (eCB (on2 maxI) (Jb (Jp "turn" (Ja 0)) (Jb (Jo (pg k) "next_ready" 0 (Ja 0) Jd) Jd)))) Js) (Jcb k)
theorem Jg8:Jbh (k+1) [x0] h=(Jf0 k [Za x0] h).fin:=by kernel_rfl
def Jdw:S1:=Jg (Ji 2 (Jc Jf (Jp "row" (Ja 0)) (Ja 1))) (Jg (Ji 3 (Jc Jf (Jp "dones" (Ja 0)) (Ja 1))) (Jg (Ji 4 (Jc Qe (Jn (Jdt k) [] (Jb (Jo (pg k) "work" 1 (Jp "duty" (Jp "order" (Ja 0))) (Jb (Jc Jf (Ja 2) (eC (.int 0))) Jd)) (Jb (Ja 3) (Jb (Jc Jf (Ja 2) (eC (.int 3))) Jd)))) (Ja 3))) (Jg (sIf (Jh asB (Jc cGt (eCB (on1 lenI) (Jb (Jp "later" (Ja 0)) Jd)) (eC (.int 0)))) (Ji 4 (eCB (on2 minI) (Jb (Ja 4) (Jb (Jc Qe (Jo (pg k) "next_ready" 0 (Ja 0) Jd) (Jp "turn" (Ja 0))) Jd)))) Js) (Jm (Ja 4)))))
theorem Je3:Jah (k+1) [x0,x1] h=(Jdw k [Za x0,Za x1,Zc,Zc,Zc] h).fin:=by kernel_rfl
def Jde:S1:=(JL (Jo (pg k) "append" 1 (Jp "stretches" (Ja 0)) (Jb (JA (Jb (Ja 1) (Jb (Ja 3) (Jb (Ja 2) Jd)))) Jd)))
def Jhu:S1:=Jg (Ji 3 (Jp "turn" (Ja 0))) (Jg (sIf (QK (Jh asB (Jc cGt (eCB (on1 lenI) (Jb (Jp "stretches" (Ja 0)) Jd)) (eC (.int 0)))) (Jh asB (Jc cEq (Jc Jf (Jc Jf (Jp "stretches" (Ja 0)) (eUn Yw (eC (.int 1)))) (eC (.int 0))) (Ja 1)))) (Ji 3 (Jc Jf (Jo (pg k) "pop" 0 (Jp "stretches" (Ja 0)) Jd) (eC (.int 1)))) Js) (Jde k))
theorem Jja:Jcg (k+1) [x0,x1,x2] h=(Jhu k [Za x0,Za x1,Za x2,Zc] h).fin:=by kernel_rfl
def Jgp:S1:=Jg (JL (Jo (pg k) "let_in" 0 (Ja 0) Jd)) (Jg (Ji 1 (Jo (pg k) "pick" 3 (Jp "order" (Ja 0)) (Jb (Jp "row" (Ja 0)) (Jb (Jp "waiting" (Ja 0)) (Jb (Jp "dones" (Ja 0)) Jd))))) (Jg (Ji 2 (Jo (pg k) "turns_for" 1 (Ja 0) (Jb (Ja 1) Jd))) (Jg (JL (Jo (pg k) "tell" 2 (Ja 0) (Jb (Ja 1) (Jb (Jc Jl (Jp "turn" (Ja 0)) (Ja 2)) Jd)))) (Jg (XD .Add "turn" (Ja 0) (Ja 2)) (Jg (XE .Add (Jp "dones" (Ja 0)) (Ja 1) (Ja 2)) (sIf (Jh asB (Jc cEq (Jc Jf (Jp "dones" (Ja 0)) (Ja 1)) (Jc Jf (Jc Jf (Jp "row" (Ja 0)) (Ja 1)) (eC (.int 3))))) (JL (Jo (pg k) "remove" 1 (Jp "waiting" (Ja 0)) (Jb (Ja 1) Jd))) Js))))))
theorem Jh1:Jbp (k+1) [x0] h=(Jgp k [Za x0,Zc,Zc] h).fin:=by kernel_rfl
def Jwm:S1:=Jg (JL (Jn (Jgk k) [] (Jb (Jp "duty" (Ja 0)) (Jb (Ja 1) Jd)))) (Jg (Ji 2 (QR "Bench" (Jcf k) [] (Jb (Ja 0) (Jb (Ja 1) Jd)))) (Jg (Xd (Jh asB (Jc cGt (Jc Jl (eCB (on1 lenI) (Jb (Jp "later" (Ja 2)) Jd)) (eCB (on1 lenI) (Jb (Jp "waiting" (Ja 2)) Jd))) (eC (.int 0)))) (JL (Jo (pg k) "go_on" 0 (Ja 2) Jd))) (Jm (Jp "stretches" (Ja 2)))))
theorem Jze:Jwd (k+1) [x0,x1] h=(Jwm k [Za x0,Za x1,Zc] h).fin:=by kernel_rfl
def Jcv (k:Nat):E1:=(eIsi (Ju7 ["Work"]) (Ja 0))
def Jcw (k:Nat):E1:=(Jp "name" (Ja 0))
def Jeq (k:Nat):S1:=(Jm (eCB (on1 Xg) (Jb (Ja 0) Jd)))
def Jep:S1:=Jg (sIf (Jh asB (Jc cNe (Yf (Jb (Jz (Jw (Ja 0)) 1 [] (gNm 0) JC (Jcw k)) Jd)) (eCB (on1 lenI) (Jb (Ja 0) Jd)))) stS Js) (Jeq k)
def Jeo:S1:=Jg (sIf (JD (Jh tru (eCB (on1 allI) (Jb (Jz (Jw (Ja 0)) 1 [] (gNm 0) JC (Jcv k)) Jd)))) stS Js) (Jep k)
def Jen:S1:=Jg (sIf (JD (Jh tru (eIsi Ve (Ja 0)))) stS Js) (Jeo k)
theorem Jk2:Jdu (k+1) [x0] h=(Jen k [Za x0] h).fin:=by kernel_rfl
def Jdh (k:Nat):E1:=(Jp "due" (Ja 0))
def Jdi:E1:=(Jn (Jdv k) [] (Jb (Jc Jl (Ja 1) (Jp "late" (Ja 0))) (Jb (Jp "gap" (Ja 0)) Jd)))
def Jft:S1:=(Jm (eCB (on1 sumI) (Jb (Jz (Jw (Ja 0)) 1 [1] (gNm 0) JC (Jdi k)) Jd)))
def Jfs:S1:=Jg (Ji 1 (Yg (Jb (Jz (Jw (Ja 0)) 1 [] (gNm 0) JC (Jdh k)) Jd) (eC (.int 0)))) (Jft k)
theorem Jl9:Jfc (k+1) [x0] h=(Jfs k [Za x0,Zc] h).fin:=by kernel_rfl
def Jd7:S1:=(sIf (Jh asB (Jc cGt (Jn (Jfc k) [] (Jb (Jp "works" (Ja 0)) Jd)) (eC (.int 80)))) stS Js)
def Jd6:S1:=Jg (sIf (Jh asB (Jc cGt (eCB (on1 lenI) (Jb (Jp "works" (Ja 0)) Jd)) (eC (.int 12)))) stS Js) (Jd7 k)
def Jd5:S1:=Jg (JM "works" (Ja 0) (Jn (Jdu k) [] (Jb (Ja 1) Jd))) (Jd6 k)
theorem Jkr:Jbq (k+1) [x0,x1] h=(Jd5 k [Za x0,Za x1] h).fin:=by kernel_rfl
def Jd8 (k:Nat):S1:=(Jm (eCB (on1 lenI) (Jb (Jp "works" (Ja 0)) Jd)))
theorem Jks:Jdm (k+1) [x0] h=(Jd8 k [Za x0] h).fin:=by kernel_rfl
def Jd9 (k:Nat):S1:=(Jm (Jc Jf (Jp "works" (Ja 0)) (Ja 1)))
theorem Jkt:Jdn (k+1) [x0,x1] h=(Jd9 k [Za x0,Za x1] h).fin:=by kernel_rfl
def Je5:S1:=(JL (Jo (pg k) "setdefault" 2 (Ja 1) (Jb (Jc Jf (Ja 3) (eC (.int 0))) (Jb (Ja 2) Jd))))
def Je6:S1:=(sFor (Jw (Jo (pg k) "held" 0 (Jo (pg k) "work" 1 (Ja 0) (Jb (Ja 2) Jd)) Jd)) (gNm 3) (Je5 k))
def Jfr (k:Nat):S1:=(Jm (Ja 1))
def Jfq:S1:=Jg (sFor (iRg Q3 (Jb (Jo (pg k) "size" 0 (Ja 0) Jd) Jd)) (gNm 2) (Je6 k)) (Jfr k)
def Jfp:S1:=Jg (Ji 1 Xt) (Jfq k)
theorem Jl8:Jc1 (k+1) [x0] h=(Jfp k [Za x0,Zc,Zc,Zc] h).fin:=by kernel_rfl
def Jbm (k:Nat):E1:=(Jc Jf (Ja 0) (eC (.int 0)))
def Jbn (k:Nat):T1:=(Jh asB (JT cLt cLt (Jc Jf (Ja 0) (eC (.int 1))) (Ja 1) (Jc Jf (Ja 0) (eC (.int 2)))))
def Jcq:S1:=(Jm (Jz (Jw (Jo (pg k) "held" 0 (Ja 0) Jd)) 1 [1] (gNm 0) (Jbn k) (Jbm k)))
theorem Jh7:Jas (k+1) [x0,x1] h=(Jcq k [Za x0,Za x1] h).fin:=by kernel_rfl
def Jfv (k:Nat):E1:=(Jc QF (Ja 1) (Ja 0))
def Jij:S1:=(Jm (eCB (on1 Xa) (Jb (Jc Jl (J0 (Jb (Ja 0) Jd)) (Jz (Jw (Ja 1)) 1 [2] (gNm 0) JC (Jfv k))) Jd)))
theorem Jqh:Jir (k+1) [x0,x1,x2] h=(Jij k [Za x0,Za x1,Za x2] h).fin:=by kernel_rfl
def Jhx (k:Nat):S1:=(Jm (Jc Qe (Jc Qe (Jc Jf (Ja 0) (eC (.int 2))) (Jc Jf (Ja 0) (eC (.int 1)))) (eC (.int 1))))
theorem Jjf:Ja7 (k+1) [x0] h=(Jhx k [Za x0] h).fin:=by kernel_rfl
def Ja9 (k:Nat):E1:=(JA (Jb (Ja 3) (Jb (Ja 0) Jd)))
def Jaf (k:Nat):T1:=(Jh asB (Jc cLe (Jc QF (Ja 2) (Jc Jf (Ja 0) (eC (.int 0)))) (Ja 1)))
def Jf2:S1:=Jg (Ji 2 (Jn (Jc1 k) [] (Jb (Ja 0) Jd))) (Jg (Ji 3 (J0 Jd)) (Jg (sFor (iRg VI (Jb (Jc Jl (Ja 1) (eC (.int 1))) (Jb (Jo (pg k) "size" 0 (Ja 0) Jd) Jd))) (gNm 4) (JL (Jo (pg k) "extend" 1 (Ja 3) (Jb (Jz (Jw (Jo (pg k) "held" 0 (Jo (pg k) "work" 1 (Ja 0) (Jb (Ja 4) Jd)) Jd)) 1 [1,2,4] (gNm 0) (Jaf k) (Ja9 k)) Jd)))) (Jm (Yh gtZ "longest_hold" 1 [] (Jb (Ja 3) Jd) (Jn (Ja7 k) [] (Jb (Jc Jf (Ja 0) (eC (.int 1))) Jd)) (eC .non)))))
theorem Jha:Jbj (k+1) [x0,x1] h=(Jf2 k [Za x0,Za x1,Zc,Zc,Zc] h).fin:=by kernel_rfl
def Jl1:S1:=Jg (Ji 2 (Jn (Jbj k) [] (Jb (Ja 0) (Jb (Ja 1) Jd)))) (Jm (eIf (Jh asB (Jc cIs (Ja 2) (eC .non))) (eC (.int 0)) (Jn (Ja7 k) [] (Jb (Jc Jf (Ja 2) (eC (.int 1))) Jd))))
theorem Joj:Jgl (k+1) [x0,x1] h=(Jl1 k [Za x0,Za x1,Zc] h).fin:=by kernel_rfl
def Jdf (k:Nat):S1:=(JM "duty" (Ja 0) (Ja 1))
theorem Jjb:Jch (k+1) [x0,x1] h=(Jdf k [Za x0,Za x1] h).fin:=by kernel_rfl
def Jcc:E1:=(Jc Jl (Jo (pg k) "standing" 2 (Ja 3) (Jb (Jc Jf (Ja 2) (Ja 0)) (Jb (Jc Jf (Ja 1) (Ja 0)) Jd))) (JA (Jb (Ja 0) Jd)))
def Jdg:S1:=(Jm (Xu ltT "Order.pick" 0 [3,1,0] (Jb (Ja 2) Jd) (Jcc k)))
theorem Jjc:Ja5 (k+1) [x0,x1,x2,x3] h=(Jdg k [Za x0,Za x1,Za x2,Za x3] h).fin:=by kernel_rfl
def Ja8:S1:=(Jm (JA (Jb (Jo (pg k) "rank_of" 2 (Ja 0) (Jb (Ja 1) (Jb (Ja 2) Jd))) (Jb (eIf (Jh tru (Jo (pg k) "holds" 2 (Ja 0) (Jb (Ja 1) (Jb (Ja 2) Jd)))) (eC (.int 0)) (eC (.int 1))) Jd))))
theorem Jfk:Jap (k+1) [x0,x1,x2] h=(Ja8 k [Za x0,Za x1,Za x2] h).fin:=by kernel_rfl
def Jck:S1:=(JM "tops" (Ja 0) (Jn (Jc1 k) [] (Jb (Ja 1) Jd)))
def Jcj:S1:=Jg (JL (Jn (Jch k) [] (Jb (Ja 0) (Jb (Ja 1) Jd)))) (Jck k)
theorem Jh2:Jar (k+1) [x0,x1] h=(Jcj k [Za x0,Za x1] h).fin:=by kernel_rfl
def Jd4:S1:=(Jm (Jn (Jir k) [] (Jb (Jc Jf (Ja 1) (eC (.int 0))) (Jb (Jn (Jas k) [] (Jb (Jo (pg k) "work" 1 (Jp "duty" (Ja 0)) (Jb (Jc Jf (Ja 1) (eC (.int 0))) Jd)) (Jb (Ja 2) Jd))) (Jb (Jp "tops" (Ja 0)) Jd)))))
theorem Jfj:Jao (k+1) [x0,x1,x2] h=(Jd4 k [Za x0,Za x1,Za x2] h).fin:=by kernel_rfl
def Jf1:S1:=(Jm (Jc cGt (eCB (on1 lenI) (Jb (Jn (Jas k) [] (Jb (Jo (pg k) "work" 1 (Jp "duty" (Ja 0)) (Jb (Jc Jf (Ja 1) (eC (.int 0))) Jd)) (Jb (Ja 2) Jd))) Jd)) (eC (.int 0))))
theorem Jg9:Jbi (k+1) [x0,x1,x2] h=(Jf1 k [Za x0,Za x1,Za x2] h).fin:=by kernel_rfl
def Jcp (k:Nat):S1:=(Jm (eC (.int 0)))
def Jco:S1:=Jg (sIf (Jh asB (Jc cLt (Ja 1) (eCB (on1 lenI) (Jb (Ja 0) Jd)))) (Jm (Jc Jf (Ja 0) (Ja 1))) Js) (Jcp k)
theorem Jh5:XU (k+1) [x0,x1] h=(Jco k [Za x0,Za x1] h).fin:=by kernel_rfl
def Jhv:S1:=Jg (Ji 2 (J0 Jd)) (Jg (sIf (Jh asB (Jc cGe (Ja 0) (Jc JE (eC (.int 10)) (eC (.int 30))))) (Jg (Ji 3 (Jc Qe (Ja 0) (Jc JE (eC (.int 10)) (eC (.int 30))))) (Jg (sFor (iRg Q3 (Jb (Ja 1) Jd)) (gNm 4) (Jg (JL (Jo (pg k) "append" 1 (Ja 2) (Jb (Jc Jv (Ja 3) (Jc JE (eC (.int 10)) (eC (.int 45)))) Jd))) (Ji 3 (Jc JO (Ja 3) (Jc JE (eC (.int 10)) (eC (.int 45))))))) (Jm (Ja 2)))) Js) (Jg (Ji 5 (Jc Jl (Jc Jv (Ja 0) (Jc Jl (Jc JE (eC (.int 10)) (eC (.int 18))) (eC (.int 9)))) (eC (.int 48271)))) (Jg (sFor (iRg Q3 (Jb (Jc Jl (Ja 1) (eC (.int 2))) Jd)) (gNm 4) (Jg (Ji 5 (Jc Jv (Jc Jl (Jc Jl (Jc Qs (Ja 5) (Ja 5)) (Jc Qs (eC (.int 48271)) (Ja 5))) (Ja 4)) (Jc Jl (Jc JE (eC (.int 10)) (eC (.int 18))) (eC (.int 9))))) (JL (Jo (pg k) "append" 1 (Ja 2) (Jb (Ja 5) Jd))))) (Jm (eSl slI (Ja 2) (Qg (eC (.int 2))) QU)))))
theorem Jjd:Ja6 (k+1) [x0,x1] h=(Jhv k [Za x0,Za x1,Zc,Zc,Zc,Zc] h).fin:=by kernel_rfl
def Jdk (k:Nat):E1:=(Jc Jf (Ja 2) (Jc Jv (Jc JO (Ja 1) (Jc Jl (eC (.int 11)) (Jc Qs (Ja 0) (Ja 0)))) (eC (.int 26))))
def Jkd:S1:=Jg (Ji 2 (eC (.str "abcdefghijklmnopqrstuvwxyz"))) (Jg (Ji 3 (Jc Jl (eC (.int 1)) (Jc Jv (Ja 0) (eC (.int 8))))) (Jg (Ji 4 (Jo (pg k) "join" 1 (eC (.str "")) (Jb (Jz (iRg Q3 (Jb (Ja 3) Jd)) 1 [0,2] (gNm 0) JC (Jdk k)) Jd))) (Jg (Ji 5 (Jc Jv (Jc JO (Ja 0) (eC (.int 8))) (Ja 3))) (Jm (Jc Jl (Jc Jl (eSl slT (Ja 4) QU (Qg (Ja 5))) (Jc Jf (Ja 2) (Jc Jv (Jc Jl (Jc JO (Ja 0) (eC (.int 64))) (Ja 1)) (eC (.int 26))))) (eSl slT (Ja 4) (Qg (Jc Jl (Ja 5) (eC (.int 1)))) QU))))))
theorem Jmc:Jc3 (k+1) [x0,x1] h=(Jkd k [Za x0,Za x1,Zc,Zc,Zc,Zc] h).fin:=by kernel_rfl
def Jcr (k:Nat):E1:=(Jc Jv (Ja 0) (Ja 1))
def Jcs (k:Nat):T1:=(Jh asB (Jc cLt (Jc Jf (Ja 0) (eC (.int 1))) (Jc Jf (Ja 0) (eC (.int 2)))))
def Jef:S1:=(Jm (Jz (Jw (Jc Jf (Ja 8) (Jc Jv (Jc Jf (Ja 0) (eC (.int 8))) (eC (.int 7))))) 1 [] (gNm 0) (Jcs k) (Ja 0)))
def Jee:S1:=Jg (JL (Jo (pg k) "append" 1 (Ja 8) (Jb (J0 (Jb (JA (Jb (Ja 6) (Jb (Jc Jf (Ja 3) (eC (.int 1))) (Jb (Jc Jf (Ja 3) (eC (.int 4))) Jd)))) (Jb (JA (Jb (Ja 4) (Jb (Jc Jf (Ja 3) (eC (.int 0))) (Jb (Jc Jf (Ja 3) (eC (.int 5))) Jd)))) (Jb (JA (Jb (Ja 7) (Jb (Jc Jf (Ja 3) (eC (.int 2))) (Jb (Jc Jf (Ja 3) (eC (.int 3))) Jd)))) Jd)))) Jd))) (Jef k)
def Jed:S1:=Jg (Ji 8 (Jc Jl (Ja 8) (J0 (Jb (J0 (Jb (JA (Jb (Ja 4) (Jb (Jc Jf (Ja 3) (eC (.int 0))) (Jb (Jc Jf (Ja 3) (eC (.int 1))) Jd)))) (Jb (JA (Jb (Ja 6) (Jb (Jc Jf (Ja 3) (eC (.int 2))) (Jb (Jc Jf (Ja 3) (eC (.int 5))) Jd)))) Jd))) (Jb (J0 (Jb (JA (Jb (Ja 4) (Jb (Jc Jf (Ja 3) (eC (.int 2))) (Jb (Jc Jf (Ja 3) (eC (.int 4))) Jd)))) (Jb (JA (Jb (Ja 4) (Jb (Jc Jf (Ja 3) (eC (.int 0))) (Jb (Jc Jf (Ja 3) (eC (.int 1))) Jd)))) Jd))) Jd))))) (Jee k)
def Jec:S1:=Jg (Ji 8 (J0 (Jb (J0 Jd) (Jb (J0 (Jb (JA (Jb (Ja 4) (Jb (Jc Jf (Ja 3) (eC (.int 0))) (Jb (Jc Jf (Ja 3) (eC (.int 5))) Jd)))) Jd)) (Jb (J0 (Jb (JA (Jb (Ja 4) (Jb (Jc Jf (Ja 3) (eC (.int 0))) (Jb (Jc Jf (Ja 3) (eC (.int 5))) Jd)))) (Jb (JA (Jb (Ja 6) (Jb (Jc Jf (Ja 3) (eC (.int 1))) (Jb (Jc Jf (Ja 3) (eC (.int 4))) Jd)))) Jd))) (Jb (J0 (Jb (JA (Jb (Ja 6) (Jb (Jc Jf (Ja 3) (eC (.int 1))) (Jb (Jc Jf (Ja 3) (eC (.int 2))) Jd)))) (Jb (JA (Jb (Ja 4) (Jb (Jc Jf (Ja 3) (eC (.int 0))) (Jb (Jc Jf (Ja 3) (eC (.int 3))) Jd)))) Jd))) Jd)))))) (Jed k)
def Jiy:S1:=Jg (Ji 3 (eCB (on1 XI) (Jb (Jz (Jw (eSl slI (Ja 0) QU (Qg (eC (.int 6))))) 1 [1] (gNm 0) JC (Jcr k)) Jd))) (Jg (Ji 4 (Jc Jf (Ja 2) (Jc Jv (Jc Jf (Ja 0) (eC (.int 6))) (eC (.int 3))))) (Jg (Ji 5 (Jc Jl (eC (.int 1)) (Jc Jv (Jc Jf (Ja 0) (eC (.int 7))) (eC (.int 2))))) (Jg (Ji 6 (Jc Jf (Ja 2) (Jc Jv (Jc Jl (Jc Jf (Ja 0) (eC (.int 6))) (Ja 5)) (eC (.int 3))))) (Jg (Ji 7 (Jc Jf (Ja 2) (Jc Jv (Jc Jl (Jc Jf (Ja 0) (eC (.int 6))) (Jc Qs (eC (.int 2)) (Ja 5))) (eC (.int 3))))) (Jec k)))))
theorem Jkx:Jdq (k+1) [x0,x1,x2] h=(Jiy k [Za x0,Za x1,Za x2,Zc,Zc,Zc,Zc,Zc,Zc] h).fin:=by kernel_rfl
def Jiz:S1:=Jg (Ji 3 (Jn (Ja6 k) [] (Jb (Ja 0) (Jb (eC (.int 17)) Jd)))) (Jg (Ji 4 (Jc Jl (Jc Qs (Ja 1) (Jc Jl (eC (.int 1)) (Jc Jv (Jc Jf (Ja 3) (eC (.int 0))) (eC (.int 7))))) (Jc Jv (Jc Jf (Ja 3) (eC (.int 1))) (Jc Jl (eC (.int 1)) (Jc JO (Ja 1) (eC (.int 2))))))) (Jg (Ji 5 (Jc Qe (Ja 4) (Jc Jf (J0 (Jb (eC (.int 0)) (Jb (Jc Jv (Jc Jf (Ja 3) (eC (.int 2))) (Ja 4)) Jd))) (Jc Jv (Jc Jf (Ja 3) (eC (.int 3))) (eC (.int 2)))))) (Jg (Ji 6 (Jc Jf (J0 (Jb (eC (.int 0)) (Jb (eC (.int 0)) (Jb (Jc Jv (Jc Jf (Ja 3) (eC (.int 4))) (Jc Jl (eC (.int 1)) (Jc JO (Ja 4) (eC (.int 3))))) (Jb (Jc Jv (Jc Jf (Ja 3) (eC (.int 4))) (Jc Jl (eC (.int 1)) (Jc JO (Jc Qs (eC (.int 3)) (Ja 4)) (eC (.int 2))))) Jd))))) (Jc Jv (Jc Jf (Ja 3) (eC (.int 5))) (eC (.int 4))))) (Jg (Ji 7 (Jc Jl (eC (.int 1)) (Jc Jv (Jc Jf (Ja 3) (eC (.int 6))) (eCB (on2 maxI) (Jb (eC (.int 1)) (Jb (Jc JO (Ja 4) (Jc Jf (J0 (Jb (eC (.int 1)) (Jb (eC (.int 2)) (Jb (eC (.int 4)) (Jb (eC (.int 9)) Jd))))) (Jc Jv (Jc Jf (Ja 3) (eC (.int 7))) (eC (.int 4))))) Jd)))))) (Jg (Ji 8 (J0 Jd)) (Jg (sIf (Jh asB (Jc cNe (Ja 2) (J0 Jd))) (Ji 8 (Jn (Jdq k) [] (Jb (eSl slI (Ja 3) (Qg (eC (.int 8))) QU) (Jb (Ja 7) (Jb (Ja 2) Jd))))) Js) (Jm (JA (Jb (Ja 4) (Jb (Ja 7) (Jb (Ja 5) (Jb (Ja 6) (Jb (Ja 8) Jd)))))))))))))
theorem Jky:Jdr (k+1) [x0,x1,x2] h=(Jiz k [Za x0,Za x1,Za x2,Zc,Zc,Zc,Zc,Zc,Zc] h).fin:=by kernel_rfl
def Jdj:E1:=(Jn (Jc3 k) [] (Jb (Jc JO (Ja 1) (eC (.int 5))) (Jb (Ja 0) Jd)))
def Jfu:S1:=Jg (Ji 6 (J0 Jd)) (Jg (sFor (iRg Q3 (Jb (Jc Jv (Ja 4) (eC (.int 6))) Jd)) (gNm 7) (Jg (Ji 8 (Jn (Jdr k) [] (Jb (Jc Jl (Jn (XU k) [] (Jb (Ja 0) (Jb (Jc Jl (eC (.int 2)) (Ja 7)) Jd))) (Jc Qs (eC (.int 7)) (Ja 7))) (Jb (Ja 3) (Jb (Ja 5) Jd))))) (JL (Jo (pg k) "append" 1 (Ja 6) (Jb (Jc Jl (JA (Jb (Jn (Jc3 k) [] (Jb (Jc JO (Ja 4) (eC (.int 7))) (Jb (Ja 7) Jd))) Jd)) (Ja 8)) Jd))))) (Jm (Ja 6)))
def Jkc:S1:=Jg (Ji 2 (Jn (XU k) [] (Jb (Ja 0) (Jb (eC (.int 0)) Jd)))) (Jg (Ji 3 (Jc Jl (eC (.int 1)) (Jc Jv (Jc JO (Ja 2) (eC (.int 4))) (Jc Jf (J0 (Jb (eC (.int 4)) (Jb (Jc JE (eC (.int 10)) (eC (.int 15))) (Jb (Jc JE (eC (.int 10)) (eC (.int 15))) (Jb (Jc JE (eC (.int 10)) (eC (.int 40))) Jd))))) (Jc Jv (Ja 2) (eC (.int 4))))))) (Jg (Ji 4 (Jn (XU k) [] (Jb (Ja 0) (Jb (eC (.int 1)) Jd)))) (Jg (Ji 5 (J0 Jd)) (Jg (sIf (Jh tru (Ja 1)) (Ji 5 (Jz (iRg Q3 (Jb (eC (.int 3)) Jd)) 1 [4] (gNm 0) JC (Jdj k))) Js) (Jfu k)))))
theorem Jmb:Jfd (k+1) [x0,x1] h=(Jkc k [Za x0,Za x1,Zc,Zc,Zc,Zc,Zc,Zc,Zc] h).fin:=by kernel_rfl
def Jfx:S1:=(Jg (Ji 6 (Jn (Ja6 k) [] (Jb (Ja 5) (Jb (eC (.int 6)) Jd)))) (Jg (Ji 7 (Jc Jv (Jc Jf (Ja 6) (eC (.int 0))) (eCB (on1 lenI) (Jb (Ja 1) Jd)))) (Jg (sAsg (Jc Jf (Ja 1) (Ja 7)) (gTp 6 (gC (gNm 8) (gC (gNm 9) (gC (gNm 10) (gC (gNm 11) (gC (gNm 12) (gC (gNm 13) gN)))))))) (Jg (Ji 14 (Jc Jf (J0 (Jb (Ja 12) (Jb (eC (.int 0)) (Jb (Jc Jv (Jc Jf (Ja 6) (eC (.int 1))) (Jc Jl (Ja 12) (eC (.int 1)))) Jd)))) (Jc Jv (Jc Jf (Ja 6) (eC (.int 2))) (eC (.int 3))))) (Jg (Ji 15 (Jc Jl (Jc Qe (Ja 4) (Ja 14)) (Jc Jf (J0 (Jb (eC (.int 0)) (Jb (Jc Jv (Jc Jf (Ja 6) (eC (.int 3))) (Ja 9)) (Jb (Jc Qe (eC (.int 0)) (Jc Jv (Jc Jf (Ja 6) (eC (.int 3))) (Ja 9))) Jd)))) (Jc Jv (Jc Jf (Ja 6) (eC (.int 4))) (eC (.int 3)))))) (Jg (sIf (Jh asB (Jc cInD (Ja 7) (Ja 3))) (Ji 15 (Jc Jl (Jc Jl (Jc QF (Ja 3) (Ja 7)) (Ja 9)) (Jc Jf (J0 (Jb (eC (.int 0)) (Jb (Jc Jv (Jc Jf (Ja 6) (eC (.int 3))) (Jc Jl (eC (.int 1)) (Ja 9))) Jd))) (Jc Jv (Jc Jf (Ja 6) (eC (.int 4))) (eC (.int 2)))))) Js) (Jg (sAsg (Ja 15) (gSbD (Ja 3) (Ja 7))) (JL (Jo (pg k) "append" 1 (Ja 2) (Jb (JA (Jb (Ja 7) (Jb (Ja 15) (Jb (Ja 14) (Jb (Jc Jf (J0 (Jb (Ja 10) (Jb (Ja 10) (Jb (Jc Jl (eC (.int 1)) (Jc Jv (Jc Jf (Ja 6) (eC (.int 5))) (Ja 10))) Jd)))) (Jc Jv (Jc JO (Jc Jf (Ja 6) (eC (.int 4))) (eC (.int 6))) (eC (.int 3)))) Jd))))) Jd))))))))))
def Jl2:S1:=Jg (Ji 2 (J0 Jd)) (Jg (Ji 3 Xt) (Jg (sIf (Jh asB (Jc cEq (Ja 1) (J0 Jd))) (Jm (Ja 2)) Js) (Jg (Ji 4 (Jc Qs (eC (.int 3)) (eCB (on1 VZ) (Jb (Jz (Jw (Ja 1)) 1 [] (gNm 0) JC (Jc Jf (Ja 0) (eC (.int 1)))) Jd)))) (Jg (sFor (Jw (Ja 0)) (gNm 5) (Jfx k)) (Jm (Ja 2))))))
theorem Jom:Jgn (k+1) [x0,x1] h=(Jl2 k [Za x0,Za x1,Zc,Zc,Zc,Zc,Zc,Zc,Zc,Zc,Zc,Zc,Zc,Zc,Zc,Zc] h).fin:=by kernel_rfl
def Jaj (k:Nat):E1:=(Ja 0)
def Jgw:S1:=Jg (Ji 2 (J0 Jd)) (Jg (sFor (Jw (eSl slI (Ja 0) QU (Qg (Jc Jl (Ja 1) (eC (.int 1)))))) (gNm 3) (Ji 2 (Jc Jl (Ja 2) (Jz (Jw (Jc Jf (Ja 3) (eC (.int 5)))) 3 [] (gTp 3 (gC (gNm 0) (gC (gNm 1) (gC (gNm 2) gN)))) JC (Jaj k))))) (Jg (Ji 4 (eC (.int 0))) (Jg (sFor (Jw (eSl slI (Ja 0) (Qg (Jc Jl (Ja 1) (eC (.int 1)))) QU)) (gNm 3) (sFor (Jw (Jc Jf (Ja 3) (eC (.int 5)))) (gTp 3 (gC (gNm 5) (gC (gNm 6) (gC (gNm 7) gN)))) (sIf (Jh asB (Jc cIn (Ja 5) (Ja 2))) (Ji 4 (eCB (on2 maxI) (Jb (Ja 4) (Jb (Jc Qe (Jc Qe (Ja 7) (Ja 6)) (eC (.int 1))) Jd)))) Js))) (Jm (Ja 4)))))
theorem Jh6:Jbu (k+1) [x0,x1] h=(Jgw k [Za x0,Za x1,Zc,Zc,Zc,Zc,Zc,Zc] h).fin:=by kernel_rfl
def Jcd (k:Nat):E1:=(Ja 2)
def Jce (k:Nat):T1:=(Jh asB (Jc cEq (Ja 0) (Ja 3)))
def Jhw:S1:=Jg (Ji 3 (Jc Jl (Jc Jf (Jc Jf (Ja 0) (Ja 2)) (eC (.int 1))) (Jc Jf (Jc Jf (Ja 0) (Ja 2)) (eC (.int 2))))) (Jg (Ji 4 (eCB (on1 VZ) (Jb (Jz (Jw (Ja 1)) 3 [2] (gTp 3 (gC (gNm 0) (gC (gNm 1) (gC (gNm 2) gN)))) (Jce k) (Jcd k)) Jd))) (Jg (Ji 5 (eC (.int 0))) (Jg (sFor (Jw (Ja 1)) (gTp 3 (gC (gNm 6) (gC (gNm 7) (gC (gNm 8) gN)))) (sIf (Jh asB (Jc cGt (Jc Jf (Jc Jf (Ja 0) (Ja 6)) (eC (.int 0))) (Jc Jf (Jc Jf (Ja 0) (Ja 2)) (eC (.int 0))))) (sAug .Add 5 (eCB (on2 maxI) (Jb (eC (.int 0)) (Jb (Jc Qe (eCB (on2 minI) (Jb (Ja 8) (Jb (Ja 4) Jd))) (eCB (on2 maxI) (Jb (Ja 7) (Jb (Ja 3) Jd)))) Jd)))) Js)) (Jm (Ja 5)))))
theorem Jje:Jci (k+1) [x0,x1,x2] h=(Jhw k [Za x0,Za x1,Za x2,Zc,Zc,Zc,Zc,Zc,Zc] h).fin:=by kernel_rfl
def Jes:E1:=(QR "Work" (Jbr k) [] (Jb (Jc Jf (Ja 0) (eC (.int 0))) (Jb (Jc Jf (Ja 0) (eC (.int 1))) (Jb (Jc Jf (Ja 0) (eC (.int 2))) (Jb (Jc Jf (Ja 0) (eC (.int 3))) (Jb (Jc Jf (Ja 0) (eC (.int 4))) (Jb (eCB (on1 Vh) (Jb (Jc Jf (Ja 0) (eC (.int 5))) Jd)) Jd)))))))
def Jwl:S1:=Jg (Ji 1 (Jn (Jfd k) [] (Jb (Ja 0) (Jb (eC (.bl Zh)) Jd)))) (Jg (Ji 2 (QR "Duty" (Jbq k) [] (Jb (Jz (Jw (Ja 1)) 1 [] (gNm 0) JC (Jes k)) Jd))) (Jg (Ji 3 (Jn (Jgn k) [] (Jb (eSl slI (Ja 0) (Qg (eC (.int 8))) (Qg (eC (.int 22)))) (Jb (Ja 1) Jd)))) (Jg (Ji 4 (Jn (Jwd k) [] (Jb (QR "ByRank" (Jar k) [] (Jb (Ja 2) Jd)) (Jb (eCB (on1 Vh) (Jb (Ja 3) Jd)) Jd)))) (Jg (sFor (iRg Q3 (Jb (eCB (on1 lenI) (Jb (Ja 3) Jd)) Jd)) (gNm 5) (Jg (Ji 6 (Jc Jf (Jc Jf (Ja 3) (Ja 5)) (eC (.int 0)))) (Jg (Ji 7 (Jn (Jci k) [] (Jb (Ja 3) (Jb (Ja 4) (Jb (Ja 5) Jd))))) (sIf (tOrI (Jh asB (Jc cGt (Ja 7) (Jn (Jbu k) [] (Jb (Ja 1) (Jb (Ja 6) Jd))))) (Jh asB (Jc cGt (Ja 7) (Jn (Jgl k) [] (Jb (Ja 2) (Jb (Ja 6) Jd)))))) (Jm (eC (.bl Zk))) Js)))) (Jm (eC (.bl Zh)))))))
theorem Jzd:Xn (k+1) [x0] h=(Jwl k [Za x0,Zc,Zc,Zc,Zc,Zc,Zc,Zc] h).fin:=by kernel_rfl
end
theorem Jbg (k:Nat):JZ (pg k) "held" 0 "Work"=Za (Jdo k,[]):=by kernel_rfl
theorem Jdx (k:Nat):JZ (pg k) "next_ready" 0 "Bench"=Za (Jae k,[]):=by kernel_rfl
theorem Jg3 (k:Nat):JZ (pg k) "let_in" 0 "Bench"=Za (Jbh k,[]):=by kernel_rfl
theorem Je1 (k:Nat):JZ (pg k) "turns_for" 1 "Bench"=Za (Jah k,[]):=by kernel_rfl
theorem Ji7 (k:Nat):JZ (pg k) "tell" 2 "Bench"=Za (Jcg k,[]):=by kernel_rfl
theorem Jhz (k:Nat):JZ (pg k) "go_on" 0 "Bench"=Za (Jbp k,[]):=by kernel_rfl
theorem Jcz (k:Nat):JZ (pg k) "size" 0 "Duty"=Za (Jdm k,[]):=by kernel_rfl
theorem Jc0 (k:Nat):JZ (pg k) "work" 1 "Duty"=Za (Jdn k,[]):=by kernel_rfl
theorem Jfi (k:Nat):JZ (pg k) "rank_of" 2 "ByRank"=Za (Jao k,[]):=by kernel_rfl
theorem Jg4 (k:Nat):JZ (pg k) "holds" 2 "ByRank"=Za (Jbi k,[]):=by kernel_rfl
theorem Jh0 (k:Nat):JZ (pg k) "pick" 3 "ByRank"=Za (Ja5 k,[]):=by kernel_rfl
theorem Je2 (k:Nat):JZ (pg k) "standing" 2 "ByRank"=Za (Jap k,[]):=by kernel_rfl
end LW
section
open PySem L2 L3 L4
local macro_rules | `(tactic| simp! [$xs,*]) => `(tactic| simp (implicitDefEqProofs := Zk) only [YX, YW, Jj9, YY, YV, YZ, Jka, YU, Xl, Jn9, Jj8, Joa, XS, Qu, Jr, V6, Qh, Yj, Jsu, Vn, Ju4, Jnv, Ju1, YH, YS, Jn8, Jj5, Jj6, YC, Jj3, Jgg, YT, YM, Jj4, VR, Juq, Xj, Jnz, Jgi, Jgj, V8, YG, YA, Jn7, Jn3, YO, YE, YN, V7, YB, Juy, Juw, Juu, Jut, Jus, Juz, Jny, Jn4, Jnw, Jj7, Jn5, YF, Ju0, JW, V5, Xk, YQ, Jn0, Jn2, Jn1, Jn6, Jgh, Zc0, Zbw, Za4, Zan, Zaw, exists_eq_left, exists_eq_left', IV.bl.injEq, IV.int.injEq, IV.ref.injEq, IV.str.injEq, IX.lst.injEq, IV.tup.injEq, Zbe, Zcs, Zch, reduceCtorEq, eq_self, true_implies, false_implies, implies_true, and_true, true_and, and_false, false_and, ZbN, Zbx, ZW, Y7, Y3, Y8, Y4, Y5, Y6, VA, V9, VC, Ve, VB, Vu, Xh, YI, JP, JX, Qm, Qy, Vf, YL, YJ, YK, $xs,*])
local macro_rules | `(tactic| simp_all! [$xs,*]) => `(tactic| try simp (implicitDefEqProofs := Zk) only [YX, YW, Jj9, YY, YV, YZ, Jka, YU, Xl, Jn9, Jj8, Joa, XS, Qu, Jr, V6, Qh, Yj, Jsu, Vn, Ju4, Jnv, Ju1, YH, YS, Jn8, Jj5, Jj6, YC, Jj3, Jgg, YT, YM, Jj4, VR, Juq, Xj, Jnz, Jgi, Jgj, V8, YG, YA, Jn7, Jn3, YO, YE, YN, V7, YB, Juy, Juw, Juu, Jut, Jus, Juz, Jny, Jn4, Jnw, Jj7, Jn5, YF, Ju0, JW, V5, Xk, YQ, Jn0, Jn2, Jn1, Jn6, Jgh, Zc0, Zbw, Za4, Zan, Zaw, exists_eq_left, exists_eq_left', IV.bl.injEq, IV.int.injEq, IV.ref.injEq, IV.str.injEq, IX.lst.injEq, IV.tup.injEq, Zbe, Zcs, Zch, reduceCtorEq, eq_self, true_implies, false_implies, implies_true, and_true, true_and, and_false, false_and, ZbN, Zbx, ZW, Y7, Y3, Y8, Y4, Y5, Y6, VA, V9, VC, Ve, VB, Vu, Xh, YI, JP, JX, Qm, Qy, Vf, YL, YJ, YK, $xs,*])
local macro_rules | `(tactic| dsimp! [$xs,*]) => `(tactic| simp (implicitDefEqProofs := Zk) only [YX, YW, Jj9, YY, YV, YZ, Jka, YU, Xl, Jn9, Jj8, Joa, XS, Qu, Jr, V6, Qh, Yj, Jsu, Vn, Ju4, Jnv, Ju1, YH, YS, Jn8, Jj5, Jj6, YC, Jj3, Jgg, YT, YM, Jj4, VR, Juq, Xj, Jnz, Jgi, Jgj, V8, YG, YA, Jn7, Jn3, YO, YE, YN, V7, YB, Juy, Juw, Juu, Jut, Jus, Juz, Jny, Jn4, Jnw, Jj7, Jn5, YF, Ju0, JW, V5, Xk, YQ, Jn0, Jn2, Jn1, Jn6, Jgh, Zc0, Zbw, Za4, Zan, Zaw, $xs,*])
namespace LW
open PySem L2 L3 L4
section
variable {k:Nat}{h:IH}
theorem J2:1000000<sizeLine:=by decide
theorem XF (o o':IX):List.set (h++[o]) h.length o'=h++[o']:=by
 rw[ZcH _ _ (Zq _),Zdd];rfl
theorem XG (o o':IX)(g:IH):List.set (h++o::g) h.length o'=h++o'::g:=by
 rw[ZcH _ _ (Zq _),Zdd];rfl
end
section
seal L4.run
section
variable {α β:Type}{σ:ISt}{h h1:IH}{N:ISt->IH->Prop}{R:IV->IH->Prop}{P:IV->IH->Prop}
theorem xb {f:α->IH->Res β}(x:WR r λ a h=>WR (f a h) Q):WR (r.bind f) Q:=(Jr ..).mpr x
theorem xseq (x:WS (a σ h) (λ σ1 h1=>WS (b σ1 h1) N R) R):WS (Jg a b σ h) N R:=(YX ..).mpr x
theorem xfin {r:SRes}(x:WS r (λ _ h=>P .non h) P):WR r.fin P:=(YF ..).mpr x
theorem xset (x:WR (e σ h) λ v h1=>N (σ.set i (Za v)) h1):WS (Ji i e σ h) N R:=(YY ..).mpr x
theorem xret (x:WR (e σ h) R):WS (Jm e σ h) N R:=(YZ ..).mpr x
theorem Q7 {e:E1}(x:WR (e σ h) λ _ h1=>N σ h1):WS (JL e σ h) N R:=(YU ..).mpr x
theorem xif (x:WR (t σ h) λ c h1=>(c=Zh->WS (a σ h1) N R)/\(c=Zk->WS (b σ h1) N R)):WS (sIf t a b σ h) N R:=(YV ..).mpr x
theorem xeif (x:WR (t σ h) λ c h1=>(c=Zh->WR (a σ h1) P)/\(c=Zk->WR (b σ h1) P)):WR (eIf t a b σ h) P:=(YH ..).mpr x
theorem J1p (x:WR (a σ h) λ c h1=>(c=Zh->WR (b σ h1) Q)/\(c=Zk->Q Zk h1)):WR (QK a b σ h) Q:=(YS ..).mpr x
theorem xdec [Decidable p](x:p->a)(y:¬p->b):(decide p=Zh->a)/\(decide p=Zk->b):=⟨λ e=>x (of_decide_eq_true e),λ e=>y (of_decide_eq_false e)⟩
theorem J3w (x:N σ h):WS (.next σ h) N R:=x
theorem xnil (x:N σ h):WS (Js σ h) N R:=x
theorem xtup (x:WR (a σ h) λ xs h1=>xs.length<=sizeLine/\P (.tup xs) h1):WR (JA a σ h) P:=(YT ..).mpr x
theorem xlst (x:WR (a σ h) λ xs h1=>xs.length<=sizeLine/\P (.ref h1.length) (h1++[.lst xs])):WR (J0 a σ h) P:=(YM ..).mpr x
theorem xixl (g:h[i]?=Za (.lst xs))(e:atI xs n=Za x)(q:P x h):WR (Jf (.ref i) (.int n) h) P:=(Jsc ..).mpr ⟨_,g,_,e,q⟩
theorem xixt (e:atI xs n=Za x)(q:P x h):WR (Jf (.tup xs) (.int n) h) P:=(Xh ..).mpr ⟨_,e,q⟩
theorem J3v (g:h[i]?=Za (.lst xs))(q:P (.int xs.length) h):WR (lenI (.ref i) h) P:=(Jmx ..).mpr ⟨_,g,q⟩
theorem xmod (l:0<j)(q:P (.int (i%j)) h):WR (Jv (.int i) (.int j) h) P:=(YN ..).mpr ⟨l,q⟩
theorem J3u (l:0<j/\j.natAbs.log2<9000)(q:P (.int (i/j)) h):WR (JO (.int i) (.int j) h) P:=(YE ..).mpr ⟨l,q⟩
theorem xmul (l:Vb i j)(q:P (.int (i*j)) h):WR (Qs (.int i) (.int j) h) P:=(YO ..).mpr ⟨l,q⟩
theorem fldE (ho:o σ h=.ok (.ref i) h1)(g:h1[i]?=Za (.ins c fs))(l:fs.lookup f=Za x):Jp f o σ h=.ok x h1:=by
 refine Ju ?_
 rw[YG,ho]
 exact⟨x,(Qc g).trans l,rfl,rfl⟩
theorem binE (ea:a σ h=.ok x h1)(eb:b σ h1=.ok y h2):Jc f a b σ h=f x y h2:=by unfold Jc;rw[ea];dsimp only[Res.bind];rw[eb]
theorem arg1 (ea:a σ h=.ok x h1):Jb a Jd σ h=.ok [x] h1:=by unfold Jb;rw[ea];rfl
theorem arg2 (ea:a σ h=.ok x h1)(eb:b σ h1=.ok y h2):Jb a (Jb b Jd) σ h=.ok [x,y] h2:=by unfold Jb;rw[ea];dsimp only[Res.bind];rw[eb];rfl
theorem cbE (ea:a σ h=.ok xs h1):eCB f a σ h=f xs h1:=by unfold eCB;rw[ea];rfl
theorem JY (ea:a σ h=.ok xs h1)(ef:f (xs++d) h1=.ok v h2):Jn f d a σ h=.ok v h2:=by unfold Jn;rw[ea];exact ef
theorem tofE (ea:a σ h=.ok (.bl c) h1):Jh asB a σ h=.ok c h1:=by unfold Jh;rw[ea];rfl
theorem lenE (ea:a σ h=.ok (.ref i) h1)(g:h1[i]?=Za (.lst xs)):eCB (on1 lenI) (Jb a Jd) σ h=.ok (.int xs.length) h1:=by
 rw[cbE (arg1 ea)]
 exact Ju (J3v g ⟨rfl,rfl⟩)
theorem ixlE (ea:a σ h=.ok (.ref i) h1)(eb:b σ h1=.ok (.int n) h2)(g:h2[i]?=Za (.lst xs))(e:atI xs n=Za x):Jc Jf a b σ h=.ok x h2:=by
 rw[binE ea eb]
 exact Ju (xixl g e ⟨rfl,rfl⟩)
theorem ixtE (ea:a σ h=.ok (.tup xs) h1)(eb:b σ h1=.ok (.int n) h2)(e:atI xs n=Za x):Jc Jf a b σ h=.ok x h2:=by
 rw[binE ea eb]
 exact Ju (xixt e ⟨rfl,rfl⟩)
theorem gtE (ea:a σ h=.ok (.int i) h1)(eb:b σ h1=.ok (.int j) h2):Jh asB (Jc cGt a b) σ h=.ok (decide (j<i)) h2:=tofE (binE ea eb)
theorem leE (ea:a σ h=.ok (.int i) h1)(eb:b σ h1=.ok (.int j) h2):Jh asB (Jc cLe a b) σ h=.ok (decide (i<=j)) h2:=tofE (binE ea eb)
theorem ltE (ea:a σ h=.ok (.int i) h1)(eb:b σ h1=.ok (.int j) h2):Jh asB (Jc cLt a b) σ h=.ok (decide (i<j)) h2:=tofE (binE ea eb)
theorem geE (ea:a σ h=.ok (.int i) h1)(eb:b σ h1=.ok (.int j) h2):Jh asB (Jc cGe a b) σ h=.ok (decide (j<=i)) h2:=tofE (binE ea eb)
theorem eqE (ea:a σ h=.ok (.int i) h1)(eb:b σ h1=.ok (.int j) h2):Jh asB (Jc cEq a b) σ h=.ok (decide (i=j)) h2:=tofE (binE ea eb)
theorem addE (ea:a σ h=.ok (.int i) h1)(eb:b σ h1=.ok (.int j) h2):Jc Jl a b σ h=.ok (.int (i+j)) h2:=binE ea eb
theorem subE (ea:a σ h=.ok (.int i) h1)(eb:b σ h1=.ok (.int j) h2):Jc Qe a b σ h=.ok (.int (i-j)) h2:=binE ea eb
theorem arg3 (ea:a σ h=.ok x h1)(eb:b σ h1=.ok y h2)(ec:c σ h2=.ok z h3):Jb a (Jb b (Jb c Jd)) σ h=.ok [x,y,z] h3:=by
 rw[show Jb a (Jb b (Jb c Jd)) σ h=(a σ h).bind λ x h1=>(Jb b (Jb c Jd) σ h1).bind λ xs h2=>.ok (x::xs) h2 from rfl,ea]
 show(Jb b (Jb c Jd) σ h1).bind _=_
 rw[arg2 eb ec]
 rfl
theorem arg4 (ea:a σ h=.ok x h1)(eb:b σ h1=.ok y h2)(ec:c σ h2=.ok z h3)(ed:d σ h3=.ok u h4):Jb a (Jb b (Jb c (Jb d Jd))) σ h=.ok [x,y,z,u] h4:=by
 rw[show Jb a (Jb b (Jb c (Jb d Jd))) σ h=(a σ h).bind λ x h1=>(Jb b (Jb c (Jb d Jd)) σ h1).bind λ xs h2=>.ok (x::xs) h2 from rfl,ea]
 show(Jb b (Jb c (Jb d Jd)) σ h1).bind _=_
 rw[arg3 eb ec ed]
 rfl
theorem modE (ea:a σ h=.ok (.int i) h1)(eb:b σ h1=.ok (.int j) h2)(l:0<j):Jc Jv a b σ h=.ok (.int (i%j)) h2:=(binE ea eb).trans (Ju (xmod l ⟨rfl,rfl⟩))
theorem QB (ea:a σ h=.ok (.int i) h1)(eb:b σ h1=.ok (.int j) h2)(l:0<j)(z:j.natAbs.log2<9000):Jc JO a b σ h=.ok (.int (i/j)) h2:=(binE ea eb).trans (Ju (J3u ⟨l,z⟩ ⟨rfl,rfl⟩))
theorem mulE (ea:a σ h=.ok (.int i) h1)(eb:b σ h1=.ok (.int j) h2)(l:Vb i j):Jc Qs a b σ h=.ok (.int (i*j)) h2:=(binE ea eb).trans (Ju (xmul l ⟨rfl,rfl⟩))
theorem lstE (ea:a σ h=.ok xs h1)(l:Nat.ble xs.length 1000=Zh):J0 a σ h=.ok (.ref h1.length) (h1++[.lst xs]):=Ju (xlst (Je ea ⟨ZZ (ZdY l) (ZZ (by decide) (Zcl J2)),rfl,rfl⟩))
theorem tupE (ea:a σ h=.ok xs h1)(l:Nat.ble xs.length 1000=Zh):JA a σ h=.ok (.tup xs) h1:=Ju (xtup (Je ea ⟨ZZ (ZdY l) (ZZ (by decide) (Zcl J2)),rfl,rfl⟩))
theorem pkE (ea:a σ h=.ok xs h1)(l:Nat.ble xs.length 1000=Zh)(eb:b σ (h1++[.lst xs])=.ok (.int n) (h1++[.lst xs]))(e:atI xs n=Za x):Jc Jf (J0 a) b σ h=.ok x (h1++[.lst xs]):=ixlE (lstE ea l) eb Jk e
theorem maxE (ea:a σ h=.ok (.int i) h1)(eb:b σ h1=.ok (.int j) h2):eCB (on2 maxI) (Jb a (Jb b Jd)) σ h=.ok (.int (if j>i then j else i)) h2:=cbE (arg2 ea eb)
theorem minE (ea:a σ h=.ok (.int i) h1)(eb:b σ h1=.ok (.int j) h2):eCB (on2 minI) (Jb a (Jb b Jd)) σ h=.ok (.int (if j<i then j else i)) h2:=cbE (arg2 ea eb)
theorem dotE {Pg:Pg}{m c:Str}{n i:Nat}{o:E1}{a:A1}{fs:List (Str×IV)}{f:List IV->IH->Res IV}{d xs:List IV}{h2 h3:IH}{v:IV}(e:o σ h=.ok (.ref i) h1)(hi:h1[i]?=Za (.ins c fs))(hf:fs.lookup m=Zc)(hd:JZ Pg m n c=Za (f,d))(ha:a σ h1=.ok xs h2)(hx:f (.ref i::(xs++d)) h2=.ok v h3):Jo Pg m n o a σ h=.ok v h3:=by
 refine Ju ((VQ e hi hf hd).mpr (Je ha (Je hx ⟨rfl,rfl⟩)))
theorem xifd [Decidable p](e:t σ h=.ok (decide p) h1)(x:p->WS (a σ h1) N R)(y:¬p->WS (b σ h1) N R):WS (sIf t a b σ h) N R:=xif (Je e (xdec x y))
theorem xiff (e:t σ h=.ok Zk h1)(x:WS (b σ h1) N R):WS (sIf t a b σ h) N R:=xif (Je e ⟨(λ z=>by cases z),λ _=>x⟩)
theorem xift (e:t σ h=.ok Zh h1)(x:WS (a σ h1) N R):WS (sIf t a b σ h) N R:=xif (Je e ⟨λ _=>x,λ z=>by cases z⟩)
theorem xnx (e:r=.next σ1 h1)(x:N σ1 h1):WS r N R:=by rw[e];exact x
theorem xfor (x:WR (it σ h) λ J h1=>WS (Qf J.chk g b J.xs σ h1) N R):WS (sFor it g b σ h) N R:=(XS ..).mpr x
theorem okc {α:Type}{r:Res α}{c d:α}(e:r=.ok c h)(q:c=d):r=.ok d h:=q▸e
theorem notE (e:a σ h=.ok c h1):JD a σ h=.ok (!c) h1:=by unfold JD;rw[e];rfl
theorem truE (e:a σ h=.ok (.bl c) h1):Jh tru a σ h=.ok c h1:=by unfold Jh;rw[e];rfl
theorem orF (e:a σ h=.ok Zk h1)(eb:b σ h1=r):tOrI a b σ h=r:=by unfold tOrI;rw[e];exact eb
theorem andT (e:a σ h=.ok Zh h1)(eb:b σ h1=r):QK a b σ h=r:=by unfold QK;rw[e];exact eb
theorem andF (e:a σ h=.ok Zk h1):QK a b σ h=.ok Zk h1:=by unfold QK;rw[e];rfl
theorem J13 (e:a σ h=.ok (.bl Zh) h1)(eb:b σ h1=r):eAnd a b tru σ h=r:=by unfold eAnd;rw[e];exact eb
theorem chT (ea:a σ h=.ok (.int i) h1)(eb:b σ h1=.ok (.int j) h2)(ec:c σ h2=.ok (.int l) h3)(t1:i<=j)(t2:j<l):JT cLe cLt a b c σ h=.ok (.bl Zh) h3:=by
 unfold JT
 rw[ea]
 dsimp only[Res.bind]
 rw[eb]
 show(match IV.bl (decide (i<=j)) with|.bl Zh=>_|.bl Zk=>_|_=>_)=_
 rw[decide_eq_true t1]
 show(c σ h2).bind _=_
 rw[ec]
 show Res.ok (IV.bl (decide (j<l))) h3=_
 rw[decide_eq_true t2]
theorem xrng {e:E1}{g:G1}{b:S1}{n:Nat}(ee:e σ h=.ok (.int (n:Int)) h1)(l:n<1000000)(x:WS (Qf (λ _=>True) g b (rngI 0 (n:Int)) σ h1) N R):WS (sFor (iRg Q3 (Jb e Jd)) g b σ h) N R:=by
 rw[XS,V5]
 refine Je (arg1 ee) ?_
 rw[Xk]
 exact⟨by omega,x⟩
theorem Jz6 (ea:a σ h=.ok (.ref i) h1)(g:h1[i]?=Za (.lst xs)):eCB (on1 Vh) (Jb a Jd) σ h=.ok (.ref h1.length) (h1++[.lst xs]):=by
 rw[cbE (arg1 ea)]
 exact Ju ((Jux ..).mpr ⟨_,g,rfl,rfl⟩)
theorem Vo (ev:e σ h=.ok v h1)(eo:o σ h1=.ok (.ref i) h1)(g:h1[i]?=Za (.ins c fs))(l:fs.length<1000)(q:N σ (h1.set i (.ins c (putI f v fs)))):WS (JM f o e σ h) N R:=by
 rw[VS]
 exact Je ev (Je eo ⟨i,c,fs,rfl,g,l,q⟩)
theorem J3s (eo:o σ h=.ok (.ref i) h1)(g:h1[i]?=Za (.ins c fs))(l:fs.lookup f=Za (.int a))(ee:e σ h1=.ok (.int b) h2)(g2:h2[i]?=Za (.ins c gs))(z:gs.length<1000)(q:N σ (h2.set i (.ins c (putI f (.int (a+b)) gs)))):WS (XD .Add f o e σ h) N R:=by
 unfold XD
 rw[eo]
 simp only[rS,g,l,ee,L4.ipI,g2,z,if_true]
 exact q
theorem J3t (eo:o σ h=.ok (.ref i) h1)(ek:k σ h1=.ok (.int n) h2)(g:h2[i]?=Za (.lst xs))(ea:atI xs n=Za (.int a))(n0:0<=n)(ee:e σ h2=.ok (.int b) h3)(g3:h3[i]?=Za (.lst ys))(ej:ixN ys.length n=Za j)(q:N σ (h3.set i (.lst (ys.set j (.int (a+b)))))):WS (XE .Add o k e σ h) N R:=by
 unfold XE
 rw[eo]
 simp only[rS,ek,ixL,g,ea,n0,if_true,ee,L4.ipI,setI,g3,ej]
 exact q
theorem XT {Pg:Pg}{m c:Str}{n i:Nat}{o:E1}{a:A1}{fs:List (Str×IV)}{f:List IV->IH->Res IV}{d:List IV}(e:o σ h=.ok (.ref i) h1)(hi:h1[i]?=Za (.ins c fs))(hf:fs.lookup m=Zc)(hd:JZ Pg m n c=Za (f,d))(x:WR (a σ h1) λ vs h2=>WR (f (.ref i::(vs++d)) h2) P):WR (Jo Pg m n o a σ h) P:=(VQ e hi hf hd).mpr x
theorem Va {Pg:Pg}{m:Str}{n i:Nat}{o:E1}{a:A1}{xs:List IV}{g:IV->List IV->IH->Res IV}(e:o σ h=.ok (.ref i) h1)(hl:h1[i]?=Za (.lst xs))(hg:bmOf "list" m n=Za g)(x:WR (a σ h1) λ vs h2=>WR (g (.ref i) vs h2) P):WR (Jo Pg m n o a σ h) P:=(Jyp e hl hg).mpr x
theorem xapp (g:h[i]?=Za (.lst xs))(l:xs.length<sizeLine)(q:P .non (h.set i (.lst (xs++[y])))):WR (VT (.ref i) [y] h) P:=(Jr7 ..).mpr ⟨_,g,l,q⟩
theorem xpop (g:h[i]?=Za (.lst xs))(l:xs[xs.length-1]?=Za y)(q:P y (h.set i (.lst xs.dropLast))):WR (X9 (.ref i) [] h) P:=by
 have e:VJ (.ref i) h=Za (i,xs):=by unfold VJ;simp only[g]
 unfold X9
 rw[e]
 dsimp only
 rw[l]
 exact q
theorem xrem {i j:Nat}{k:Int}{ns:List Int}(g:h[i]?=Za (.lst (ns.map .int)))(l:ns.findIdx? (· ==k)=Za j)(q:P .non (h.set i (.lst ((ns.map IV.int).eraseIdx j)))):WR (XA (.ref i) [.int k] h) P:=by
 have e:VJ (.ref i) h=Za (i,ns.map .int):=by unfold VJ;simp only[g]
 unfold XA
 rw[e]
 dsimp only
 rw[Vx]
 dsimp only
 rw[l]
 exact q
theorem Jpu:bmOf "list" "pop" 0=Za X9:=by kernel_rfl
theorem Jpv:bmOf "list" "remove" 1=Za XA:=by kernel_rfl
end
end
section
variable {k:Nat}{h:IH}
theorem Jl4 (ns:List Int)(n:Int)(hn:0<=n):XU (k+1) [.rol (ns.map .int),.int n] h=.ok (.int (ns.getD n.toNat 0)) h:=by
 refine Ju ?_
 rw[Jh5]
 simp! [Jco,Jcp,Zj,decide_eq_true_eq,decide_eq_false_iff_not]
 refine⟨λ hl=>⟨.int (ns.getD n.toNat 0),Jlz hn ?_,rfl⟩,λ hl=>?_⟩
 ·rw[Z1,Zl,Zb (show n.toNat<ns.length by omega)]
  rfl
 ·rw[Zl,Zbk (by omega)]
  rfl
end
section
seal L4.run
section
variable {k:Nat}{h:IH}
theorem Jfw (i:Int):Jc2 (k+1) [.int i] h=.ok (.bl Zh) h:=by rw[Jma];rfl
theorem Jfn (i j:Int):Vp (k+2) [.int i,.int j] h=.ok (.bl (decide (j<=i))) h:=by
 refine Ju ?_
 rw[Jf3]
 simp! [Jbl,Jfw]
def IsNm (x:Str):Prop:=1<=x.length/\x.length<=8/\∀c∈x.cps.toList,97<=c/\c<=122
theorem J1t:(Zae "a").cps.toList=[97]:=by decide +kernel
theorem J3x:(Zae "z").cps.toList=[122]:=by decide +kernel
theorem Jx8 (hc:97<=c/\c<=122):Jbv k [Za (.str ⟨#[c]⟩)] h=.ok (.bl Zh) h:=by
 refine Ju ?_
 have h1:¬([c]<[97]):=λ q=>by
  cases q with
  | rel q=>omega
  | cons q=>cases q
 have h2:¬([122]<[c]):=λ q=>by
  cases q with
  | rel q=>omega
  | cons q=>cases q
 simp only[Jbv,YC,Qh,Yj,V6,J1n,J1t,J3x,h1,h2,decide_false,exists_eq_left,exists_eq_left',IV.bl.injEq,IV.int.injEq,IV.ref.injEq,IV.str.injEq,IX.lst.injEq,IV.tup.injEq,Zbe,Zcs,Zch,reduceCtorEq,eq_self,true_implies,false_implies,implies_true,and_true,true_and,and_false,false_and,ZbN,Zbx,ZW,Y7,Y3,Y8,Y4,Y5,Y6,VA,V9,VC,Ve,VB,Vu,Xh,YI,JP,JX,Qm,Qy,Vf,YL,YJ,YK]
theorem Jin (hx:IsNm x):WR (Jd0 (k+1) [.str x] h) λ v h'=>v=.bl Zh/\Ex h h':=by
 obtain⟨h1,h2,h3⟩:=hx
 have hb:=J2
 have hz:x.length<=sizeLine:=by omega
 have a1:(1:Int)<=x.length:=by omega
 have a2:(x.length:Int)<=8:=by omega
 rw[Jol]
 simp! [Jgu,Jgv,hz,a1,a2,decide_true]
 refine WR.mono (Ql (xs:=Vl x) (chk:=λ _=>True) (f:=λ _=>.bl Zh) (h:=h) ?_ ?_ (λ _ _=>trivial) ?_) ?_
 ·exact⟨rfl,rfl,rfl⟩
 ·have:(Vl x).length=x.length:=by simp[Vl,Zev]
  omega
 ·intro v hv h2 _
  obtain⟨c,hc,rfl⟩:=Z3.mp hv
  exact Je (Jx8 (h3 c hc)) ⟨rfl,.refl _⟩
 ·rintro v h' ⟨rfl,g,rfl⟩
  refine Je (all_map (f:=λ _=>Zh) J4) ⟨?_,.cons ..⟩
  simp
abbrev Hd:=Str×Int×Int
def tupH (a:Hd):IV:=.tup [.str a.1,.int a.2.1,.int a.2.2]
def HdOk (len:Int)(a:Hd):Prop:=IsNm a.1/\0<=a.2.1/\a.2.1<a.2.2/\a.2.2<len
def Tog (a b:Hd):Prop:=a.2.2<=b.2.1∨b.2.2<=a.2.1∨(a.1≠b.1/\((b.2.1<=a.2.1/\a.2.2<=b.2.2)∨(a.2.1<=b.2.1/\b.2.2<=a.2.2)))
theorem Jot (ha:HdOk len a):WR (Jgm (k+3) [tupH a,.int len] h) λ v h'=>v=.bl Zh/\Ex h h':=by
 obtain⟨h1,h2,h3,h4⟩:=ha
 rw[Jok]
 have h5:a.2.1+1<=a.2.2:=by omega
 simp! [Jgr,Jgs,Jgt,tupH,ZC,Zbh,Jfn]
 refine⟨λ q=>absurd q (by decide),λ _=>WR.mono (Jin h1) ?_⟩
 rintro v h' ⟨rfl,x⟩
 simp! [decide_eq_true h2,decide_eq_true h4,decide_eq_true h5]
 exact x
theorem Jk7 (a b:Hd):Jds (k+1) [tupH a,tupH b] h=.ok (.bl (decide (a.2.2<=b.2.1)||decide (b.2.2<=a.2.1))) h:=by
 refine Ju ?_
 rw[Jkz]
 simp! [Jeg,tupH]
 cases decide (a.2.2<=b.2.1)<;>simp
theorem Jov (a b:Hd):Jd1 (k+1) [tupH a,tupH b] h=.ok (.bl (decide (b.2.1<=a.2.1)&&decide (a.2.2<=b.2.2))) h:=by
 refine Ju ?_
 rw[Jon]
 simp! [Jgx,tupH]
 cases decide (b.2.1<=a.2.1)<;>simp
theorem Jh8 (t:Tog a b):Jbt (k+2) [tupH a,tupH b] h=.ok (.bl Zh) h:=by
 refine Ju ?_
 rw[Jh4]
 have ix:∀a:Hd,WR (Jf (tupH a) (.int 0) h)=λ P=>P (.str a.1) h:=λ a=>by
  funext P
  simp only[tupH,Xh,exists_eq_left,exists_eq_left',IV.bl.injEq,IV.int.injEq,IV.ref.injEq,IV.str.injEq,IX.lst.injEq,IV.tup.injEq,Zbe,Zcs,Zch,reduceCtorEq,eq_self,true_implies,false_implies,implies_true,and_true,true_and,and_false,false_and,ZbN,Zbx,ZW,Y7,Y3,Y8,Y4,Y5,Y6,VA,V9,VC,Ve,VB,Vu,Xh,YI,JP,JX,Qm,Qy,Vf,YL,YJ,YK]
 simp! [Jcl,Jcm,Jcn,Jk7,Jov,ix]
 unfold Tog at t
 simp only[Za5,ZcS,Zr,Bool.and_eq_false_iff,decide_eq_true_eq,decide_eq_false_iff_not]
 grind
theorem Jmw {hs:List Hd}{i:Nat}(hi:h[i]?=Za (.lst (hs.map tupH)))(hl:hs.length<=6)(ht:∀m n (hm:m<n)(hn:n<hs.length),Tog hs[n] hs[m]) :
  WR (Jai (k+3) [.ref i] h) λ v h'=>v=.bl Zh/\Ex h h':=by
 have hb:=J2
 rw[Je4]
 simp! [Ja1,Ja2,Jr8,hi]
 refine Qv (λ n σ h'=>(∃a b,σ=[Za (.ref i),a,b])/\Ex h h') (λ n σ h' ⟨_,x⟩=>x.get hi) ?_ ?_ ⟨⟨_,_,rfl⟩,.refl h⟩
 ·rintro n hn _ h' ⟨⟨a,b,rfl⟩,x⟩
  have hn':n<hs.length:=by rw[Xv,Zj] at hn;exact hn
  rw[Jqc]
  simp! [Zag,J1o,J3m,J3n,ZC,Zbh,Jaq]
  have hi':=x.get hi
  refine WR.mono (Ql (xs:=(hs.map tupH).take n) (chk:=λ h2=>h2[h'.length]?=Za (.lst ((hs.map tupH).take n))) (f:=λ _=>.bl Zh) (h:=h'++[.lst ((hs.map tupH).take n)]) ?_ ?_ ?_ ?_) ?_
  ·simp! [YR,hi',JN,Ji5,Jk]
  ·simp only[ZaV,Zj];omega
  ·exact λ h2 q=>q _ _ Jk
  ·intro v hv h2 q
   obtain⟨j,hj,rfl⟩:=Zam.mp hv
   have hj':j<n:=by simp at hj;omega
   simp! [List.getElem_take,Zag,Jan,Z6,Zba,ZaE,ZaF,ZbO]
   exact Je (Jh8 (ht j n hj' hn')) ⟨rfl,.refl _⟩
  ·rintro v h3 ⟨rfl,g,rfl⟩
   refine Je (all_map (f:=λ _=>Zh) J4) ?_
   have:(((hs.map tupH).take n).all λ _=>Zh)=Zh:=by simp
   simp! [this]
   exact⟨⟨_,_,rfl⟩,x.trans ((Ex.one _ _).trans (.cons ..))⟩
 ·rintro _ h' ⟨⟨a,b,rfl⟩,x⟩
  exact x
structure HsOk (len:Int)(hs:List Hd):Prop where
 few:hs.length<=6
 each:∀a∈hs,HdOk len a
 tog:∀m n (hm:m<n)(hn:n<hs.length),Tog hs[n] hs[m]
theorem Jla {hs:List Hd}(hi:h[i]?=Za (.lst (hs.map tupH)))(ok:HsOk len hs) :
  WR (XW (k+4) [.ref i,.int len] h) λ v h'=>v=.tup (hs.map tupH)/\Ex h h':=by
 have hb:=J2
 have hl:=ok.few
 have h6:¬(6:Int)<(hs.length:Int):=by omega
 rw[Jk1]
 simp! [Jeh,Jei,Jej,Jek,J1m,isI,Jv7 hi,Jmx,hi,Zj,h6,decide_false]
 refine WR.mono (Ql (xs:=hs.map tupH) (chk:=λ h2=>h2[i]?=Za (.lst (hs.map tupH))) (f:=λ _=>.bl Zh) (h:=h) ?_ ?_ ?_ ?_) ?_
 ·simp! [JN,hi]
 ·simp only[Zj];omega
 ·exact λ h2 q=>q _ _ hi
 ·intro v hv h2 q
  obtain⟨a,ha,rfl⟩:=Z3.mp hv
  simp! [Jct,Z6,Zba,ZaE,ZaF,ZbO]
  exact Jot (ok.each a ha)
 ·rintro v h1 ⟨rfl,g,rfl⟩
  refine Je (all_map (f:=λ _=>Zh) J4) ?_
  have:((hs.map tupH).all λ _=>Zh)=Zh:=by simp
  simp! [this,Jel,Jem]
  have x1:Ex h (h++IX.lst (List.map (λ x=>IV.bl Zh) (hs.map tupH))::g):=.cons ..
  refine WR.mono (Jmw (x1.get hi) hl ok.tog) ?_
  rintro v h2 ⟨rfl,x2⟩
  simp! [true_and]
  have hi2:=x2.get (x1.get hi)
  refine WR.mono (Ql (xs:=hs.map tupH) (chk:=λ h3=>h3[i]?=Za (.lst (hs.map tupH))) (f:=λ x=>x) (h:=h2) ?_ ?_ ?_ ?_) ?_
  ·simp! [JN,hi2]
  ·simp only[Zj];omega
  ·exact λ h2 q=>q _ _ hi2
  ·intro v hv h3 q
   obtain⟨a,ha,rfl⟩:=Z3.mp hv
   simp! [Jcu,tupH,ZC,Zbh]
   exact⟨by omega,.refl _⟩
  ·rintro v h3 ⟨rfl,g3,rfl⟩
   simp only[Jsh,J4,exists_eq_left,exists_eq_left',IV.bl.injEq,IV.int.injEq,IV.ref.injEq,IV.str.injEq,IX.lst.injEq,IV.tup.injEq,Zbe,Zcs,Zch,reduceCtorEq,eq_self,true_implies,false_implies,implies_true,and_true,true_and,and_false,false_and,ZbN,Zbx,ZW,Y7,Y3,Y8,Y4,Y5,Y6,VA,V9,VC,Ve,VB,Vu,Xh,YI,JP,JX,Qm,Qy,Vf,YL,YJ,YK,List.map_id']
   exact x1.trans (x2.trans (.cons ..))
theorem Jo4 (h1:1<=due)(h2:due<=gap):XV (k+3) [.int due,.int gap] h=.ok (.int due) h:=by
 refine Ju ?_
 rw[Joo]
 have:¬gap<due:=by omega
 simp! [Jgy,Jgz,Jg0,J1m,isI,Jfn,decide_eq_true h1,decide_eq_false this]
def wfs (name:Str)(gap len due late:Int)(hs:List IV):List (Str×IV):=[("name",.str name),("gap",.int gap),("length",.int len),("due",.int due),("late",.int late),("hold_tuples",.tup hs)]
section
variable (a b c d e f:IV)
theorem put0:putI "name" a ([]:List (Str×IV))=([("name",a)]:List (Str×IV)):=by kernel_rfl
theorem put1:putI "gap" b ([("name",a)]:List (Str×IV))=([("name",a),("gap",b)]:List (Str×IV)):=by kernel_rfl
theorem put2:putI "length" c ([("name",a),("gap",b)]:List (Str×IV))=([("name",a),("gap",b),("length",c)]:List (Str×IV)):=by kernel_rfl
theorem put3:putI "due" d ([("name",a),("gap",b),("length",c)]:List (Str×IV))=([("name",a),("gap",b),("length",c),("due",d)]:List (Str×IV)):=by kernel_rfl
theorem put4:putI "late" e ([("name",a),("gap",b),("length",c),("due",d)]:List (Str×IV))=([("name",a),("gap",b),("length",c),("due",d),("late",e)]:List (Str×IV)):=by kernel_rfl
theorem put5:putI "hold_tuples" f ([("name",a),("gap",b),("length",c),("due",d),("late",e)]:List (Str×IV))=([("name",a),("gap",b),("length",c),("due",d),("late",e),("hold_tuples",f)]:List (Str×IV)):=by kernel_rfl
variable {name:Str}{gap len due late:Int}{hs:List IV}
theorem fl0:(wfs name gap len due late hs).lookup ("name":Str)=Za (.str name):=by kernel_rfl
theorem fl1:(wfs name gap len due late hs).lookup ("gap":Str)=Za (.int gap):=by kernel_rfl
theorem fl2:(wfs name gap len due late hs).lookup ("length":Str)=Za (.int len):=by kernel_rfl
theorem fl3:(wfs name gap len due late hs).lookup ("due":Str)=Za (.int due):=by kernel_rfl
theorem fl4:(wfs name gap len due late hs).lookup ("late":Str)=Za (.int late):=by kernel_rfl
theorem fl5:(wfs name gap len due late hs).lookup ("hold_tuples":Str)=Za (.tup hs):=by kernel_rfl
theorem flh:(wfs name gap len due late hs).lookup ("held":Str)=Zc:=by kernel_rfl
end
theorem Jr6 {gap len due late:Int}{dv hv:IV}{hs:List IV}(hw:h[w]?=Za (.ins "Work" []))(hn:IsNm name)(hg:1<=gap)(hl:1<=len)(ht:0<=late) 
  (hd:∀h1,XV (k+4) [dv,.int gap] h1=.ok (.int due) h1)(hh:∀h1:IH,(∀(j:Nat)(o:IX),j≠w->h[j]?=Za o->h1[j]?=Za o)->WR (XW (k+4) [hv,.int len] h1) λ v h2=>v=.tup hs/\Ex h1 h2) :
  WR (Jbr (k+5) [.ref w,.str name,.int gap,.int len,dv,.int late,hv] h) λ v h'=>v=.non/\∃g,h'=h.set w (.ins "Work" (wfs name gap len due late hs))++g:=by
 rw[Jkv]
 refine xfin (xseq (xif (xb (xb (xb (Je (arg1 rfl) (WR.mono (Jin hn) ?_)))))))
 rintro v h1 ⟨rfl,g1,rfl⟩
 have lw:=JB hw
 have s1:∀{o:IX},(h++g1).set w o=h.set w o++g1:=by intro o;rw[Za1 (h:=lw)]
 have at1:∀{o:IX},(h.set w o++g1)[w]?=Za o:=by
  intro o
  rw[ZE (by rw[Zbt];exact lw),ZK lw]
 have s2:∀{o o':IX},(h.set w o++g1).set w o'=h.set w o'++g1:=by intro o o';rw[Za1 (h:=by rw[Zbt];exact lw),ZdS]
 have ok:∀{σ:ISt}{e1 e2:E1}{a b:Int}{hh:IH},e1 σ hh=.ok (.int a) hh->e2 σ hh=.ok (.int b) hh->b<=a->JD (Jh tru (Jn (Vp (k+4)) [] (Jb e1 (Jb e2 Jd)))) σ hh=.ok Zk hh:=λ h1 h2 l=>okc (notE (truE (JY (arg2 h1 h2) (Jfn _ _)))) (by rw[decide_eq_true l];rfl)
 refine Je rfl (Je rfl ⟨(λ z=>by cases z),λ _=>xnil (xseq (xiff (ok rfl rfl hg) (xnil (xseq (xiff (ok rfl rfl hl) (xnil (xseq (xiff (ok rfl rfl ht) (xnil (xseq (Vo rfl rfl (grow hw) (by decide) ?_)))))))))))⟩)
 rw[s1,put0]
 refine xseq (Vo rfl rfl at1 (by show(1:Nat)<1000;decide) ?_)
 rw[s2,put1]
 refine xseq (Vo rfl rfl at1 (by show(2:Nat)<1000;decide) ?_)
 rw[s2,put2]
 refine xseq (Vo (JY (arg2 rfl rfl) (hd _)) rfl at1 (by show(3:Nat)<1000;decide) ?_)
 rw[s2,put3]
 refine xseq (Vo rfl rfl at1 (by show(4:Nat)<1000;decide) ?_)
 rw[s2,put4]
 unfold Jeb
 rw[VS]
 refine xb (Je (arg2 rfl rfl) (WR.mono (hh _ λ j o hj e=>?_) ?_))
 ·refine grow ?_
  rw[ZG (ZI hj)]
  exact e
 ·rintro v h2 ⟨rfl,g2,rfl⟩
  refine Je rfl ⟨w,_,_,rfl,grow at1,by show(5:Nat)<1000;decide,rfl,g1++g2,?_⟩
  rw[Za1 (h:=JB at1),s2,put5,Zad]
  rfl
theorem Jxk {gap len due late:Int}{dv hv:IV}{hs:List IV}(hn:IsNm name)(hg:1<=gap)(hl:1<=len)(ht:0<=late) 
  (hd:∀h1,XV (k+4) [dv,.int gap] h1=.ok (.int due) h1)(hh:∀h1:IH,(∀(j:Nat)(o:IX),h[j]?=Za o->h1[j]?=Za o)->WR (XW (k+4) [hv,.int len] h1) λ v h2=>v=.tup hs/\Ex h1 h2) :
  WR (Jbr (k+5) [.ref h.length,.str name,.int gap,.int len,dv,.int late,hv] (h++[.ins "Work" []])) λ v h'=>v=.non/\∃g,h'=h++.ins "Work" (wfs name gap len due late hs)::g:=by
 refine WR.mono (Jr6 Jk hn hg hl ht hd λ h1 q=>hh h1 λ j o e=>q j o (by have:=JB e;omega) (grow e)) ?_
 rintro v h' ⟨rfl,g,rfl⟩
 exact⟨rfl,g,by rw[XF];simp⟩
end
end
section
variable {k:Nat}{h:IH}
theorem Jfb (hw:h[w]?=Za (.ins "Work" (wfs name gap len due late hs))):Jdo (k+1) [.ref w] h=.ok (.ref h.length) (h++[.lst hs]):=by
 refine Ju ?_
 rw[Jku]
 simp! [Jea,Qc hw,fl5]
end
structure WD where
 name:Str
 gap:Int
 len:Int
 due:Int
 late:Int
def IsW (h:IH)(v:IV)(d:WD):Prop:=∃i hs,v=.ref i/\h[i]?=Za (.ins "Work" (wfs d.name d.gap d.len d.due d.late hs))
theorem IsW.kp (k:Kp h h')(w:IsW h v d):IsW h' v d:=by
 obtain⟨i,hs,e,q⟩:=w
 exact⟨i,hs,e,k _ _ q⟩
structure AllW (h:IH)(vs:List IV)(ds:List WD):Prop where
 len:vs.length=ds.length
 at_:∀(i:Nat) v d,vs[i]?=Za v->ds[i]?=Za d->IsW h v d
theorem AllW.kp (k:Kp h h')(w:AllW h vs ds):AllW h' vs ds:=⟨w.len,λ i v d a b=>(w.at_ i v d a b).kp k⟩
theorem AllW.of (w:AllW h vs ds)(hv:v∈vs):∃d∈ds,IsW h v d:=by
 obtain⟨i,hi,rfl⟩:=Zam.mp hv
 have hi':i<ds.length:=by rw[<- w.len];exact hi
 exact⟨ds[i],Z5 hi',w.at_ i _ _ (Zb hi) (Zb hi')⟩
def fOf (f:Str)(h:IH)(v:IV):IV:=(VF f v h).getD .non
theorem AllW.mapF (w:AllW h vs ds){F:IV->IV}{g:WD->IV}(hf:∀(i:Nat) (d:WD) hs,h[i]?=Za (.ins "Work" (wfs d.name d.gap d.len d.due d.late hs))->F (.ref i)=g d):vs.map F=ds.map g:=by
 refine Zce λ i=>?_
 rw[Z1,Z1]
 by_cases hi:i<vs.length
 ·have hi':i<ds.length:=by rw[<- w.len];exact hi
  rw[Zb hi,Zb hi']
  obtain⟨j,hs,e,q⟩:=w.at_ i _ _ (Zb hi) (Zb hi')
  simp only[Option.map_some,Zbe]
  rw[e,hf j _ hs q]
 ·have hi':¬i<ds.length:=by rw[<- w.len];exact hi
  rw[Zbk (by omega),Zbk (by omega)]
  rfl
section
variable {k:Nat}{h:IH}
theorem Jty:Ju7 ["Work"] (.ins "Work")=Za Zh:=by kernel_rfl
theorem Jlb {vs:List IV}{ds:List WD}{i:Nat}(hi:h[i]?=Za (.lst vs))(w:AllW h vs ds)(nd:(ds.map (·.name)).Nodup)(hl:ds.length<=20) :
  WR (Jdu (k+1) [.ref i] h) λ v h'=>v=.tup vs/\Ex h h':=by
 have hb:=J2
 have wl:=w.len
 rw[Jk2]
 simp! [Jen,Jeo,Jv7 hi]
 refine WR.mono (Ql (h:=h) (xs:=vs) (chk:=λ h'=>h'[i]?=Za (.lst vs)) (f:=λ _=>.bl Zh) ?_ (by omega) (λ h2 q=>q _ _ hi) ?_) ?_
 ·simp! [JN,hi]
 ·intro v hv h2 q
  obtain⟨d,_,j,hs,rfl,e⟩:=w.of hv
  have ty:tyI (.ref j) h2=Za (.ins "Work"):=by simp[tyI,q _ _ e]
  simp! [Jcv,ty,Jty]
  exact .refl _
 ·rintro _ _ ⟨rfl,g,rfl⟩
  have x1:Ex h (h++IX.lst (vs.map λ _=>.bl Zh)::g):=.cons _ _ _
  rw[all_map (f:=λ _=>Zh) J4]
  generalize h++IX.lst (vs.map λ _=>.bl Zh)::g=h1 at x1
  have at1:(vs.all λ _=>Zh)=Zh:=by simp
  simp! [at1,Jep,Jse]
  have w1:=w.kp x1.kp
  have nm:=w1.mapF (F:=fOf "name" h1) (g:=λ d=>.str d.name) λ j d hs e=>by rw[fOf,Qc e,fl0];rfl
  refine WR.mono (Ql (h:=h1) (xs:=vs) (chk:=λ h'=>h'[i]?=Za (.lst vs)) (f:=fOf "name" h1) ?_ (by omega) (λ h2 q=>q _ _ (x1.get hi)) ?_) ?_
  ·simp! [JN,x1.get hi]
  ·intro v hv h2 q
   obtain⟨d,_,j,hs,rfl,e⟩:=w1.of hv
   simp! [Jcw,Qc (q _ _ e),fl0,fOf,Qc e,ZdD]
   exact .refl _
  ·rintro _ _ ⟨rfl,g2,rfl⟩
   rw[nm]
   have em:ds.map (λ d=>IV.str d.name)=(ds.map (·.name)).map IV.str:=by simp
   rw[em]
   have x2:Ex h1 (h1++IX.lst ((ds.map (·.name)).map IV.str)::g2):=.cons _ _ _
   refine⟨_,rfl,_,J4,ds.map (·.name),Jjw _,by rw[Zj];unfold Zcm;omega,?_⟩
   rw[Jkl nd _ (Zq _)]
   simp! [Jmx,x2.get (x1.get hi),Zj,wl,decide_true,Jeq,Jsh]
   exact x1.trans x2
def rup (top bottom:Int):Int:=(top+bottom-1)/bottom
def topD (ds:List WD):Int:=if ds.map (·.due)=[] then 0 else JJ (λ i=>(ds.map (·.due)).getD i 0) (ds.map (·.due)).length
def Jm3 (ds:List WD):Int:=(ds.map λ d=>rup (topD ds+d.late) d.gap).sum
def rOf (T:Int)(h:IH)(v:IV):IV:=match VF "late" v h,VF "gap" v h with
 | some (.int l),Za (.int g)=>.int (rup (T+l) g)
 | _,_=>.non
theorem Jri (hb:0<b)(hl:b.natAbs.log2<9000):Jdv (k+1) [.int a,.int b] h=.ok (.int (rup a b)) h:=by
 refine Ju ?_
 rw[Jk3]
 simp! [Jer,hb,hl,rup]
theorem Jsp (w:AllW h vs ds)(hl:ds.length<=20)(hg:∀d∈ds,0<d.gap/\d.gap.natAbs.log2<9000) :
  WR (Jfc (k+2) [.tup vs] h) λ v h'=>v=.int (Jm3 ds)/\Ex h h':=by
 have hb:=J2
 have wl:=w.len
 rw[Jl9]
 simp! [Jfs,Jyt]
 have dm:=w.mapF (F:=fOf "due" h) (g:=λ d=>.int d.due) λ j d hs e=>by rw[fOf,Qc e,fl3];rfl
 refine WR.mono (Ql (h:=h) (xs:=vs) (chk:=λ _=>True) (f:=fOf "due" h) ?_ (by omega) (λ _ _=>trivial) ?_) ?_
 ·simp! [true_and]
 ·intro v hv h2 q
  obtain⟨d,_,j,hs,rfl,e⟩:=w.of hv
  simp! [Jdh,Qc (q _ _ e),fl3,fOf,Qc e,ZdD]
  exact .refl _
 ·rintro _ _ ⟨rfl,g,rfl⟩
  rw[dm]
  have em:ds.map (λ d=>IV.int d.due)=(ds.map (·.due)).map IV.int:=by simp
  rw[em]
  have x1:Ex h (h++IX.lst ((ds.map (·.due)).map IV.int)::g):=.cons _ _ _
  refine⟨_,rfl,_,J4,_,Vx _,?_⟩
  have et:maxD (ds.map (·.due)) (.int 0)=.int (topD ds):=by
   unfold maxD topD
   split<;>rfl
  rw[et]
  generalize h++IX.lst ((ds.map (·.due)).map IV.int)::g=h1 at x1
  have w1:=w.kp x1.kp
  simp! [Jft]
  have rm:=w1.mapF (F:=rOf (topD ds) h1) (g:=λ d=>.int (rup (topD ds+d.late) d.gap)) λ j d hs e=>by rw[rOf,Qc e,Qc e,fl4,fl1]
  refine WR.mono (Ql (h:=h1) (xs:=vs) (chk:=λ _=>True) (f:=rOf (topD ds) h1) ?_ (by omega) (λ _ _=>trivial) ?_) ?_
  ·simp! [true_and]
  ·intro v hv h2 q
   obtain⟨d,hd,j,hs,rfl,e⟩:=w1.of hv
   have e2:=q _ _ e
   simp only[Z6,Zba,ZaE,ZaF,ZbO]
   simp! [Jdi,Qc e2,fl4,fl1,Jri (hg d hd).1 (hg d hd).2]
   exact⟨by rw[rOf,Qc e,Qc e,fl4,fl1],.refl _⟩
  ·rintro _ _ ⟨rfl,g2,rfl⟩
   rw[rm]
   have em2:ds.map (λ d=>IV.int (rup (topD ds+d.late) d.gap))=(ds.map λ d=>rup (topD ds+d.late) d.gap).map IV.int:=by simp
   rw[em2]
   simp! [Jyw,J4,Vx]
   exact⟨rfl,x1.trans (.cons _ _ _)⟩
abbrev dfs (vs:List IV):List (Str×IV):=[("works",.tup vs)]
theorem dp0:putI "works" a ([]:List (Str×IV))=([("works",a)]:List (Str×IV)):=by kernel_rfl
theorem dl0:(([("works",a)]:List (Str×IV))).lookup ("works":Str)=Za a:=by kernel_rfl
theorem dlw:(([("works",a)]:List (Str×IV))).lookup ("work":Str)=Zc:=by kernel_rfl
theorem Jqa {vs:List IV}{ds:List WD}{i:Nat}(hi:h[i]?=Za (.lst vs))(w:AllW h vs ds)(nd:(ds.map (·.name)).Nodup)(hl:ds.length<=12)(hg:∀d∈ds,0<d.gap/\d.gap.natAbs.log2<9000)(hc:Jm3 ds<=80) :
  WR (Jbq (k+3) [.ref h.length,.ref i] (h++[.ins "Duty" []])) λ v h'=>v=.non/\∃g,h'=h++.ins "Duty" (dfs vs)::g:=by
 have wl:=w.len
 rw[Jkr]
 simp! [Jd5,VS]
 refine WR.mono (Jlb (grow hi) (w.kp (Ex.one h _).kp) nd (by omega)) ?_
 rintro _ _ ⟨rfl,g1,rfl⟩
 refine⟨_,_,_,rfl,grow Jk,by decide,?_⟩
 rw[dp0,Zad,Zan,Zaw,XG]
 simp! [Jd6,Qc (J4 (h:=h)),dl0,wl]
 refine⟨λ q=>?_,λ _=>?_⟩
 ·rw[decide_eq_true_eq] at q
  omega
 simp! [Jd7,Qc (J4 (h:=h)),dl0]
 refine WR.mono (Jsp (w.kp (Ex.cons h _ _).kp) (by omega) hg) ?_
 rintro _ _ ⟨rfl,g2,rfl⟩
 simp! [true_and]
 refine⟨λ q=>?_,λ _=>⟨g1++g2,by simp⟩⟩
 rw[decide_eq_true_eq] at q
 omega
theorem Jg6 (hD:h[D]?=Za (.ins "Duty" (dfs vs)))(hx:atI vs n=Za x):Jdn (k+1) [.ref D,.int n] h=.ok x h:=by
 refine Ju ?_
 rw[Jkt]
 simp! [Jd9,Qc hD,dl0,hx]
end
theorem J0y (hb:0<b)(h:a<=m*b):rup a b<=m:=by
 unfold rup
 have:(a+b-1)/b<m+1:=by
  rw[Int.ediv_lt_iff_lt_mul hb,Int.add_mul]
  omega
 omega
theorem Jvw (m:Int):∀l:List Int,(∀x∈l,x<=m)->l.sum<=l.length*m
 | [],_=>by simp
 | x::l,q=>by
  have:=Jvw m l λ y hy=>q y (Zn _ hy)
  have:=q x (Z4 ..)
  rw[Zd0,ZC,Int.natCast_add,Int.add_mul]
  simp
  omega
theorem Jjj {a b K:Nat}(h:a<=b)(hb:b.log2<K):a.log2<K:=by
 by_cases ha:a=0
 ·subst ha
  exact Nat.lt_of_le_of_lt (ZY _) hb
 ·have hb0:b≠0:=by omega
  rw[Nat.log2_lt ha]
  exact Nat.lt_of_le_of_lt h ((Nat.log2_lt hb0).mp hb)
abbrev RH:=WD×List Hd
def rd:RH:=⟨⟨⟨#[]⟩,0,0,0,0⟩,[]⟩
abbrev wo (r:RH):IX:=.ins "Work" (wfs r.1.name r.1.gap r.1.len r.1.due r.1.late (r.2.map tupH))
structure AllH (h:IH)(vs:List IV)(rs:List RH):Prop where
 len:vs.length=rs.length
 at_:∀(i:Nat) v r,vs[i]?=Za v->rs[i]?=Za r->∃j,v=.ref j/\h[j]?=Za (wo r)
theorem AllH.kp (k:Kp h h')(w:AllH h vs rs):AllH h' vs rs:=⟨w.len,λ i v r a b=>let ⟨j,e,g⟩:=w.at_ i v r a b;⟨j,e,k _ _ g⟩⟩
theorem AllH.w {h:IH}{vs:List IV}{rs:List RH}(w:AllH h vs rs):AllW h vs (rs.map (·.1)):=by
 refine⟨by rw[Zj];exact w.len,λ i v d a b=>?_⟩
 rw[Z1] at b
 cases er:rs[i]? with
 | none=>rw[er] at b;cases b
 | some r =>
  rw[er] at b
  cases b
  obtain⟨j,e,g⟩:=w.at_ i v r a er
  exact⟨j,_,e,g⟩
theorem AllH.get (w:AllH h vs rs){n:Nat}(e:rs[n]?=Za r):∃j,vs[n]?=Za (.ref j)/\h[j]?=Za (wo r):=by
 have hn:n<vs.length:=by rw[w.len];exact(Zo.mp e).1
 obtain⟨j,e1,g⟩:=w.at_ n _ r (Zb hn) e
 exact⟨j,by rw[Zb hn,e1],g⟩
structure F8 (unit:Int)(r:RH):Prop where
 nm:IsNm r.1.name
 g1:unit<=r.1.gap
 g2:r.1.gap<9*unit
 l1:1<=r.1.len
 d1:1<=r.1.due
 d2:r.1.due<=r.1.gap
 t1:0<=r.1.late
 t2:r.1.late<2*r.1.gap
 ok:HsOk r.1.len r.2
structure Gd (unit:Int)(rs:List RH):Prop where
 u1:1<=unit
 u2:unit<=10^40
 few:rs.length<=7
 f:∀r∈rs,F8 unit r
 nd:(rs.map λ r=>r.1.name).Nodup
theorem Jy6 {unit:Int}{rs:List RH}(G:Gd unit rs):Jm3 (rs.map (·.1))<=80:=by
 have hu:=G.u1
 have hf:=G.f
 have hl:=G.few
 have ht:topD (rs.map (·.1))<=9*unit:=by
  unfold topD
  split
  ·omega
  ·rename_i hne
   refine Jv1 _ _ _ (by rw[Zj,Zj];cases rs with|nil=>exact absurd rfl hne|cons _ _=>simp) λ j hj=>?_
   rw[Zj,Zj] at hj
   have e:((rs.map (·.1)).map (·.due)).getD j 0=(rs[j]).1.due:=by
    rw[Zl,Z1,Z1,Zb hj];rfl
   have f:=hf _ (Z5 hj)
   have f1:=f.d2
   have f2:=f.g2
   show((rs.map (·.1)).map (·.due)).getD j 0<=_
   rw[e]
   omega
 have:=Jvw 11 ((rs.map (·.1)).map λ d=>rup (topD (rs.map (·.1))+d.late) d.gap) λ x hx=>by
  obtain⟨d,hd,rfl⟩:=Z3.mp hx
  obtain⟨r,hr,rfl⟩:=Z3.mp hd
  have f:=hf r hr
  have f1:=f.g1
  have f2:=f.t2
  exact J0y (by omega) (by omega)
 rw[Zj,Zj] at this
 unfold Jm3
 omega
theorem Gd.gl {unit:Int}{rs:List RH}(G:Gd unit rs):∀d∈rs.map (·.1),0<d.gap/\d.gap.natAbs.log2<9000:=λ d hd=>by
 obtain⟨r,hr,rfl⟩:=Z3.mp hd
 have f:=G.f r hr
 have f1:=f.g1
 have f2:=f.g2
 have u1:=G.u1
 have u2:=G.u2
 refine⟨by omega,Jjj (b:=9*10^40) ?_ (by decide +kernel)⟩
 have e:((10^40:Nat):Int)=10^40:=by decide +kernel
 clear G f
 generalize (10^40:Int)=y at *
 generalize (10^40:Nat)=z at *
 omega
def IsDu (h:IH)(D:Nat)(rs:List RH):Prop:=∃vs,h[D]?=Za (.ins "Duty" (dfs vs))/\AllH h vs rs
theorem IsDu.kp (k:Kp h h')(w:IsDu h D rs):IsDu h' D rs:=let ⟨vs,a,b⟩:=w;⟨vs,k _ _ a,b.kp k⟩
section
variable {k:Nat}{h:IH}
theorem J12 (hi:h[i]?=Za (.lst vs))(w:AllH h vs rs)(G:Gd unit rs) :
  WR (Jbq (k+3) [.ref h.length,.ref i] (h++[.ins "Duty" []])) λ v h'=>v=.non/\Ex h h'/\IsDu h' h.length rs:=by
 have hl:=G.few
 refine WR.mono (Jqa hi w.w (by have:=G.nd;rwa [ZaD]) (by rw[Zj];omega) G.gl (Jy6 G)) ?_
 rintro _ _ ⟨rfl,g,rfl⟩
 exact⟨rfl,.cons _ _ _,vs,J4,w.kp (Ex.cons _ _ _).kp⟩
end
section
seal L4.run L4.WS
section
variable {k:Nat}{h:IH}
theorem e45 (σ:ISt)(h:IH):Jc JE (eC (.int 10)) (eC (.int 45)) σ h=.ok (.int (10^45)) h:=Ju (by
 rw[Vn,Qh,Qh,V7]
 exact⟨by decide,rfl,rfl⟩)
theorem e30 (σ:ISt)(h:IH):Jc JE (eC (.int 10)) (eC (.int 30)) σ h=.ok (.int (10^30)) h:=Ju (by
 rw[Vn,Qh,Qh,V7]
 exact⟨by decide,rfl,rfl⟩)
theorem e18 (σ:ISt)(h:IH):Jc Jl (Jc JE (eC (.int 10)) (eC (.int 18))) (eC (.int 9)) σ h=.ok (.int 1000000000000000009) h:=Ju (by
 rw[Vn,Vn,Qh,Qh,V7]
 refine⟨by decide,?_⟩
 rw[Qh,YA]
 exact⟨congrArg IV.int (by decide +kernel),rfl⟩)
theorem Jlu (c:Int)(m:Nat)(hm:m<=40):WR (Ja6 (k+1) [.int c,.int m] h) λ v h'=>∃(i:Nat)(xs:List Int),v=.ref i/\h.length<=i/\h'[i]?=Za (.lst (xs.map .int))/\xs.length=m/\(∀x∈xs,(0:Int)<=x/\x<10^45)/\Ex h h':=by
 have hb:=J2
 have p45:(0:Int)<10^45:=by decide +kernel
 have le:(1000000000000000009:Int)<=10^45:=by decide +kernel
 obtain⟨T,eT⟩:∃T:Int,∀σ h,Jc JE (eC (.int 10)) (eC (.int 30)) σ h=.ok (.int T) h:=⟨_,e30⟩
 obtain⟨G,eG,gG⟩:∃G:Int,(∀σ h,Jc Jl (Jc JE (eC (.int 10)) (eC (.int 18))) (eC (.int 9)) σ h=.ok (.int G) h)/\G=1000000000000000009:=⟨_,e18,rfl⟩
 obtain⟨F,eF,F0,Fl,Fe⟩:∃F:Int,(∀σ h,Jc JE (eC (.int 10)) (eC (.int 45)) σ h=.ok (.int F) h)/\0<F/\F.natAbs.log2<9000/\F=10^45:=⟨_,e45,p45,by decide +kernel,rfl⟩
 rw[<- Fe] at le ⊢
 clear Fe p45
 rw[Jjd]
 refine xfin (xseq (xset (Je (lstE rfl rfl) (xseq (xifd (geE rfl (eT _ _)) (λ _=>xseq (xset (Je (subE rfl (eT _ _)) (xseq (xrng rfl (by omega) ?_))))) λ _=>xnil (xseq (xset (Je (addE (modE rfl (eG _ _) (by omega)) rfl) (xseq (xrng (n:=m+2) (okc (addE rfl rfl) rfl) (by omega) ?_))))))))))
 ·refine Qv (λ n σ h'=>∃xs rest a b,h'=h++[.lst (xs.map IV.int)]/\σ=[Za (.int c),Za (.int (m:Int)),Za (.ref h.length),Za (.int rest),a,b]/\xs.length=n/\∀x∈xs,(0:Int)<=x/\x<F)
   (λ _ _ _ _=>trivial) ?_ ?_ ⟨[],_,_,_,rfl,rfl,rfl,by simp⟩
  ·rintro n hn _ _ ⟨xs,rest,a,b,rfl,rfl,lx,hx⟩
   rw[Qj] at hn
   have e1:=ZM rest (b:=F) (by omega)
   have e2:=ZH rest F0
   refine xnx rfl (xseq (Q7 (Va rfl Jk VU (Je (arg1 (modE rfl (eF _ _) F0)) (xapp Jk (by rw[Zj];omega) (xset (Je (QB rfl (eF _ _) F0 Fl) ⟨xs++[rest%F],_,_,_,?_,rfl,by simp[lx],λ x hxx=>?_⟩)))))))
   ·rw[XF]
    simp
   ·rw[ZL,Zv] at hxx
    rcases hxx with hxx|rfl
    ·exact hx x hxx
    ·exact⟨e1,e2⟩
  ·rintro _ _ ⟨xs,rest,a,b,rfl,rfl,lx,hx⟩
   rw[Qj] at lx
   exact xret (Je rfl ⟨_,xs,rfl,Zq _,Jk,by omega,hx,.one _ _⟩)
 ·have s0:=ZM c (b:=G) (by omega)
  have s1:=ZH c (b:=G) (by omega)
  refine Qv (λ n σ h'=>∃xs num a b,h'=h++[.lst (xs.map IV.int)]/\σ=[Za (.int c),Za (.int (m:Int)),Za (.ref h.length),a,b,Za (.int num)]/\(0<=num/\num<2000000000000000000)/\xs.length=n/\∀x∈xs,(0:Int)<=x/\x<G)
   (λ _ _ _ _=>trivial) ?_ ?_ ⟨[],_,_,_,rfl,rfl,by omega,rfl,by simp⟩
  ·rintro n hn _ _ ⟨xs,num,a,b,rfl,rfl,hnum,lx,hx⟩
   rw[V3]
   rw[Qj] at hn
   have e1:=ZM (num*num+48271*num+(0+(n:Int))) (b:=G) (by omega)
   have e2:=ZH (num*num+48271*num+(0+(n:Int))) (b:=G) (by omega)
   refine xnx rfl (xseq (xset (Je (modE (addE (addE (mulE rfl rfl (.inl (by omega))) (mulE rfl rfl (.inl (by decide)))) rfl) (eG _ _) (by omega)) (Q7 (Va rfl Jk VU (Je (arg1 rfl) (xapp Jk (by rw[Zj];omega) ⟨xs++[(num*num+48271*num+(0+(n:Int)))%G],_,_,_,?_,rfl,by omega,by simp[lx],λ x hxx=>?_⟩)))))))
   ·rw[XF]
    simp
   ·rw[ZL,Zv] at hxx
    rcases hxx with hxx|rfl
    ·exact hx x hxx
    ·exact⟨e1,e2⟩
  ·rintro _ _ ⟨xs,num,a,b,rfl,rfl,hnum,lx,hx⟩
   rw[Qj] at lx
   refine xret ((V8 ..).mpr (Je rfl (Je rfl (Je rfl ((YR ..).mpr ⟨_,Jk,?_⟩)))))
   rw[show(Za (2:Int))=Za ((2:Nat):Int) from rfl,Ji4,<-Zes]
   refine⟨_,xs.drop 2,rfl,by simp,Jk,by simp;omega,λ x hxx=>?_,(Ex.one _ _).trans (.one _ _)⟩
   have:=hx x (ZcV hxx)
   omega
end
end
section
variable {k:Nat}{h:IH}
theorem XM (e:h[i]?=Za (.lst xs)):toD h (n+1) (.ref i)=(xs.mapM (toD h n)).map ZcR:=by
 show(match h[i]? with|some (.lst xs)=>(xs.mapM (toD h n)).map ZcR|_=>Zc)=_
 rw[e]
theorem Jmi {f:IV->Option Zdm}{g:IV->Zdm}:∀{xs:List IV},(∀x∈xs,f x=Za (g x))->xs.mapM f=Za (xs.map g)
 | [],_=>rfl
 | x::xs,q=>by
  rw[Zcf,q x (Z4 ..),Jmi λ y hy=>q y (Zn _ hy)]
  rfl
theorem Jvl:∀{xs:List IV},(∀x∈xs,(g x).canLay0=Zh)->ZX (xs.map g)=Zh
 | [],_=>by rw[Zba,ZX]
 | x::xs,q=>by
  rw[Z6,ZX,q x (Z4 ..),Jvl λ y hy=>q y (Zn _ hy)]
  rfl
end
section
seal L4.run
section
variable {k:Nat}{h:IH}
theorem Jmg:(Zae "abcdefghijklmnopqrstuvwxyz").cps.toList=(ZT 26).map (97+ ·):=by decide +kernel
theorem Jmh:(Zae "abcdefghijklmnopqrstuvwxyz").length=26:=by decide +kernel
theorem Jq3 (h0:0<=n)(h1:n<26):WR (Jf (.str "abcdefghijklmnopqrstuvwxyz") (.int n) h) Q=Q (.str ⟨#[97+n.toNat]⟩) h:=by
 have hb:=J2
 have e:atI (Zae "abcdefghijklmnopqrstuvwxyz").cps.toList n=Za (97+n.toNat):=by
  rw[Jmg]
  refine Jlz h0 ?_
  rw[Z1,List.getElem?_range (by omega)]
  rfl
 simp only[Jf]
 rw[if_pos (by rw[Jmh];omega),e]
 rfl
theorem Jyg (l m:List Nat):(⟨l.toArray⟩:Str)++(⟨m.toArray⟩:Str)=⟨(l++m).toArray⟩:=by
 show Str.append _ _=_
 unfold Str.append
 simp
theorem Y1 (l:List Nat):(⟨l.toArray⟩:Str).length=l.length:=by simp[Zev]
theorem Jqb:(Zae "")=(⟨([]:List Nat).toArray⟩:Str):=by decide +kernel
def wSz (c:Int):Int:=1+c%8
def wAt (c:Int):Int:=c/8%wSz c
def wB (c:Int):List Nat:=(ZT (wSz c).toNat).map λ j:Nat=>97+(c/(11+(j:Int)*(j:Int))%26).toNat
def wL (c:Int)(q:Nat):List Nat:=((wB c).take (wAt c).toNat++[97+((c/64+(q:Int))%26).toNat])++(wB c).drop ((wAt c).toNat+1)
def wd (c:Int)(q:Nat):Str:=⟨(wL c q).toArray⟩
theorem w_at (c:Int):0<wSz c/\wSz c<=8/\0<=wAt c/\wAt c<wSz c:=by
 have hs:0<wSz c/\wSz c<=8:=by unfold wSz;omega
 exact⟨hs.1,hs.2,ZM _ (by omega),ZH _ hs.1⟩
theorem Jv9 (c:Int):(wB c).length=(wSz c).toNat:=by simp[wB]
theorem Jwa (c:Int)(q:Nat):(wL c q).length=(wSz c).toNat:=by
 have:=w_at c
 simp[wL,Jv9]
 omega
theorem Jr3 (c:Int)(q:Nat):IsNm (wd c q):=by
 have hs:=w_at c
 refine⟨?_,?_,?_⟩
 ·rw[wd,Y1,Jwa];omega
 ·rw[wd,Y1,Jwa];omega
 ·intro x hx
  have hx:x∈wL c q:=by simpa [wd] using hx
  have hB:∀x∈wB c,97<=x/\x<=122:=λ x hx=>by
   obtain⟨j,_,rfl⟩:=Z3.mp hx
   have h1:=ZM (c/(11+(j:Int)*(j:Int))) (b:=26) (by decide)
   have h2:=ZH (c/(11+(j:Int)*(j:Int))) (b:=26) (by decide)
   omega
  have h1:=ZM (c/64+(q:Int)) (b:=26) (by decide)
  have h2:=ZH (c/64+(q:Int)) (b:=26) (by decide)
  simp only[wL,ZL,Zv] at hx
  rcases hx with(hx|rfl)|hx
  ·exact hB x (List.mem_of_mem_take hx)
  ·omega
  ·exact hB x (ZcV hx)
theorem Jwb (hp:p<26)(hq:q<26)(e:wd c p=wd c q):p=q:=by
 have e1:wL c p=wL c q:=by
  have:(wL c p).toArray=(wL c q).toArray:=congrArg Str.cps e
  simpa using this
 have h1:=ZM (c/64+(p:Int)) (b:=26) (by decide)
 have h2:=ZM (c/64+(q:Int)) (b:=26) (by decide)
 have e2:(97+((c/64+(p:Int))%26).toNat)=97+((c/64+(q:Int))%26).toNat:=by
  unfold wL at e1
  have:=List.append_cancel_right e1
  have:=List.append_cancel_left this
  simpa using this
 omega
def lOf (c:Int)(v:IV):IV:=match v with
 | .int j=>.str ⟨#[97+(c/(11+j*j)%26).toNat]⟩
 | _=>.non
theorem Jpd (l:List Nat):Qt (l.map λ x=>IV.str ⟨#[x]⟩)=Za (Zby ⟨l.toArray⟩):=by
 have:=Jjw (Zby ⟨l.toArray⟩)
 rw[<- this]
 simp[Zby]
 rfl
theorem Jxg {l:List Nat}(hl:l.length<=8):JoinOk (Zae "") (Zby ⟨l.toArray⟩)=Zh:=by
 have hb:=J2
 have e0:(Zae "").length=0:=by decide +kernel
 have:∀(m:List Nat) (a:Nat),(m.map λ x=>(⟨#[x]⟩:Str)).foldl (λ n (x:Str)=>n+x.length+(Zae "").length) a=a+m.length:=by
  intro m
  induction m with
  | nil=>intro a;rfl
  | cons x m ih =>
   intro a
   rw[Z6,List.foldl_cons,ih,e0]
   simp[Zev]
   omega
 have e:(Zby ⟨l.toArray⟩).foldl (λ n (x:Str)=>n+x.length+(Zae "").length) 0=0+l.length:=this l 0
 unfold JoinOk Builtin.Str.tooLong
 rw[List.foldl_toArray]
 simp only[ZaO,decide_eq_false_iff_not]
 omega
theorem letE (ea:a σ h=.ok (.str "abcdefghijklmnopqrstuvwxyz") h1)(eb:b σ h1=.ok (.int n) h1)(n0:0<=n)(n1:n<26):Jc Jf a b σ h=.ok (.str ⟨#[97+n.toNat]⟩) h1:=by
 rw[binE ea eb]
 exact Ju (by rw[Jq3 n0 n1];exact⟨rfl,rfl⟩)
theorem slE (ea:a σ h=.ok (.str x) h)(el:lo σ h=.ok l h)(eu:hi σ h=.ok u h)(z:x.length<=8)(e:Zel x l u=y):eSl slT a lo hi σ h=.ok (.str y) h:=by
 have hb:=J2
 refine Ju ((V8 ..).mpr (Je ea (Je el (Je eu ?_))))
 rw[Jyv,e]
 exact⟨by omega,rfl,rfl⟩
theorem strE {x y:List Nat}(ea:a σ h=.ok (.str ⟨x.toArray⟩) h)(eb:b σ h=.ok (.str ⟨y.toArray⟩) h)(z:x.length+y.length<=9):Jc Jl a b σ h=.ok (.str ⟨(x++y).toArray⟩) h:=by
 have hb:=J2
 rw[binE ea eb]
 refine Ju ?_
 rw[YB,Jyg,Y1,Y1]
 exact⟨by omega,rfl,rfl⟩
theorem Jr5 (c:Int)(q:Nat):WR (Jc3 (k+1) [.int c,.int q] h) λ v h'=>v=.str (wd c q)/\Ex h h':=by
 have hb:=J2
 have hs:=w_at c
 have bl:=Jv9 c
 have sl:(⟨(wB c).toArray⟩:Str).length=(wB c).length:=Y1 _
 rw[Jmc]
 refine xfin (xseq (xset (Je rfl (xseq (xset (Je (a:=.int (wSz c)) (addE rfl (modE rfl rfl (by decide))) (xseq (xset ((Jyq (x:=Zae "") (h1:=h) rfl Jwo).mpr (xb (WR.mono (Ql (h:=h) (xs:=rngI 0 (wSz c)) (chk:=λ _=>True) (f:=lOf c) ?_ (by rw[Qj];omega) (λ _ _=>trivial) ?_) ?_)))))))))))
 ·rw[V5]
  refine Je (arg1 rfl) ?_
  rw[Xk]
  exact⟨by omega,rfl,rfl,rfl⟩
 ·intro x hx h2 k2
  obtain⟨n,hn,rfl⟩:=Zam.mp hx
  rw[V3,show(0+(n:Int))=(n:Int) by omega]
  rw[Qj] at hn
  have hn8:n<8:=by omega
  have sq:(n:Int)*(n:Int)<=49/\0<=(n:Int)*(n:Int):=by
   obtain rfl|rfl|rfl|rfl|rfl|rfl|rfl|rfl:n=0∨n=1∨n=2∨n=3∨n=4∨n=5∨n=6∨n=7:=by omega
   all_goals decide
  unfold Jdk
  exact Je (letE rfl (modE (QB rfl (addE rfl (mulE rfl rfl (.inl (by omega)))) (by omega) (Jjj (b:=60) (by omega) (by decide))) rfl (by decide)) (ZM _ (by decide)) (ZH _ (by decide))) ⟨rfl,.refl _⟩
 ·rintro _ _ ⟨rfl,g,rfl⟩
  have em:(rngI 0 (wSz c)).map (lOf c)=(wB c).map λ x=>IV.str ⟨#[x]⟩:=by
   rw[wB,ZaD]
   refine Zcn (by rw[Zj,Zj,Qj,Zb9];omega) λ i h1 h2=>?_
   rw[Zag,V3,Zag,Zdq]
   simp[lOf]
  rw[em]
  have x1:Ex h (h++IX.lst ((wB c).map λ x=>IV.str ⟨#[x]⟩)::g):=.cons _ _ _
  have g1:(h++IX.lst ((wB c).map λ x=>IV.str ⟨#[x]⟩)::g)[h.length]?=Za (.lst ((wB c).map λ x=>IV.str ⟨#[x]⟩)):=J4
  generalize h++IX.lst ((wB c).map λ x=>IV.str ⟨#[x]⟩)::g=h1 at x1 g1
  have jn:Txt.join (Zae "") (Zby ⟨(wB c).toArray⟩)=⟨(wB c).toArray⟩:=by rw[Jqb];exact(StrLaws.glued_eq_join _ _).trans (PyProof.Rows.join_nil_signs _)
  have s1:Zel ⟨(wB c).toArray⟩ Zc (Za (wAt c))=⟨((wB c).take (wAt c).toNat).toArray⟩:=by
   have:=beq_iff_eq.mp (PyProof.Rows.slice_closes_toL (x:=⟨(wB c).toArray⟩) (j:=wAt c) hs.2.2.1 (by rw[sl,bl];omega))
   rw[this]
   simp
  have s2:Zel ⟨(wB c).toArray⟩ (Za (wAt c+1)) Zc=⟨((wB c).drop ((wAt c).toNat+1)).toArray⟩:=by
   have:=beq_iff_eq.mp (PyProof.Rows.slice_closes_fromL (x:=⟨(wB c).toArray⟩) (i:=wAt c+1) (by omega) (by rw[sl,bl];omega) rfl)
   rw[this]
   have e1:(wAt c+1).toNat=(wAt c).toNat+1:=by omega
   rw[e1,Zbb (by rw[ZbI];show _<=((⟨(wB c).toArray⟩:Str).length-(wAt c+1)).toNat;rw[sl];simp;omega)]
  have l8:(⟨(wB c).toArray⟩:Str).length<=8:=by omega
  have t8:=List.length_take_le (wAt c).toNat (wB c)
  have d8:((wB c).drop ((wAt c).toNat+1)).length<=8-(wAt c).toNat-1:=by rw[ZbI];omega
  refine Je rfl (Jyr.mpr ⟨_,g1,_,Jpd _,Jxg (show(wB c).length<=8 by omega),?_⟩)
  rw[jn]
  refine xseq (xset (Je (a:=.int (wAt c)) (modE (QB rfl rfl (by decide) (by decide)) rfl hs.1) (xret (Je (strE (strE (slE rfl rfl rfl l8 s1) (letE rfl (modE (addE (QB rfl rfl (by decide) (by decide)) rfl) rfl (by decide)) (ZM _ (by decide)) (ZH _ (by decide))) ?_) (slE rfl rfl rfl l8 s2) ?_) ⟨rfl,x1⟩))))
  ·simp;omega
  ·simp;omega
end
end
section
seal L4.run
theorem at_x {xs:List Int}{n:Nat}(hn:n<xs.length):∃x,atI (xs.map IV.int) (n:Int)=Za (.int x) :=
 ⟨xs[n],JI (by rw[Z1,Zb hn];rfl)⟩
theorem J17 {len:Int}{cand:List Hd}(hc:cand.length<=6)(each:∀a∈cand,IsNm a.1/\0<=a.2.1/\a.2.2<len)(tog:cand.Pairwise λ a b=>Tog b a):HsOk len (cand.filter λ a=>decide (a.2.1<a.2.2)):=by
 refine⟨ZZ (Zbl _ _) hc,λ a ha=>?_,λ m n hm hn=>Zdu.mp (tog.filter _) m n _ hn hm⟩
 obtain⟨h1,h2⟩:=Zau.mp ha
 obtain⟨e1,e2,e3⟩:=each a h1
 exact⟨e1,e2,of_decide_eq_true h2,e3⟩
theorem all1 {α:Type}{P:α->Prop}{a:α}(h:P a):∀x∈[a],P x:=λ x hx=>by rw[Zv.mp hx];exact h
theorem allc {α:Type}{P:α->Prop}{a:α}{l:List α}(h:P a)(q:∀x∈l,P x):∀x∈a::l,P x:=List.forall_mem_cons.mpr ⟨h,q⟩
theorem pw1 {α:Type}{R:α->α->Prop}{a:α}:[a].Pairwise R:=.cons (λ _ h=>by cases h) .nil
theorem pw2 {α:Type}{R:α->α->Prop}{a b:α}(h:R a b):[a,b].Pairwise R:=.cons (all1 h) pw1
section
variable {k:Nat}{h:IH}
theorem Jsv {h h':IH}(k:Kp h h'):Ex h h':=by
 refine⟨h'.drop h.length,Zce λ i=>?_⟩
 by_cases hi:i<h.length
 ·rw[ZE hi,Zb hi]
  exact k i _ (Zb hi)
 ·rw[ZA (by omega),List.getElem?_drop]
  congr 1
  omega
theorem Juj {i:Nat}{ms:List Int}(hi:h[i]?=Za (.lst (ms.map .int)))(hl:ms.length<64):XI (.ref i) h=.ok (.ref h.length) (h++[.lst ((QW ms).map .int)]):=by
 dsimp only[XI]
 rw[hi]
 dsimp only
 rw[if_pos (by rw[Zj];exact hl)]
 unfold srtI
 rw[Vx]
theorem J3e {ms:List Int}{len:Int}(hl:ms.length=6)(hm:∀x∈ms,0<=x/\x<len):∃p0 p1 p2 p3 p4 p5:Int,QW ms=[p0,p1,p2,p3,p4,p5]/\0<=p0/\p0<=p1/\p1<=p2/\p2<=p3/\p3<=p4/\p4<=p5/\p5<len:=by
 have pw:=Jnm ms
 have l:(QW ms).length=6:=by rw[QW,List.length_mergeSort];exact hl
 have mem:∀x∈QW ms,0<=x/\x<len:=λ x hx=>hm x (List.mem_mergeSort.mp hx)
 match QW ms,l,pw,mem with
 | [p0,p1,p2,p3,p4,p5],_,pw,mem =>
  simp only[Zbz,Z7,ZS,or_false] at pw
  obtain⟨a,b,c,d,e,_⟩:=pw
  exact⟨p0,p1,p2,p3,p4,p5,rfl,(mem p0 (by simp)).1,a p1 (.inl rfl),b p2 (.inl rfl),c p3 (.inl rfl),d p4 (.inl rfl),e p5 rfl,(mem p5 (by simp)).2⟩
def Jza (v:IV):Bool:=match v with
 | .tup [_,.int s,.int e]=>decide (s<e)
 | _=>Zk
theorem Jqf (cand:List Hd):(cand.map tupH).filter Jza=(cand.filter λ a=>decide (a.2.1<a.2.2)).map tupH:=by
 rw[List.filter_map]
 rfl
def way7 (one other third:Str)(p0 p1 p2 p3 p4 p5:Int):Nat->List Hd
 | 0=>[]
 | 1=>[(one,p0,p5)]
 | 2=>[(one,p0,p5),(other,p1,p4)]
 | 3=>[(other,p1,p2),(one,p0,p3)]
 | 4=>[(one,p0,p1),(other,p2,p5)]
 | 5=>[(one,p2,p4),(one,p0,p1)]
 | _=>[(other,p1,p4),(one,p0,p5),(third,p2,p3)]
theorem Jnu {one other third:Str}{p0 p1 p2 p3 p4 p5:Int}(n:Nat):(way7 one other third p0 p1 p2 p3 p4 p5 n).length<=6:=by
 match n with
 | 0|1|2|3|4|5|n+6=>simp[way7]
theorem Jyl {one other third:Str}{p0 p1 p2 p3 p4 p5 len:Int}(n:Nat)(h1:IsNm one)(h2:IsNm other)(h3:IsNm third)(ne:one≠other)(n3:third≠one)(n4:third≠other)(a0:0<=p0)(a1:p0<=p1)(a2:p1<=p2)(a3:p2<=p3)(a4:p3<=p4)(a5:p4<=p5)(a6:p5<len):HsOk len ((way7 one other third p0 p1 p2 p3 p4 p5 n).filter λ a=>decide (a.2.1<a.2.2)):=by
 have b1:=ZbV a0 a1
 have b2:=ZbV b1 a2
 have b4:=ZbW a5 a6
 have b3:=ZbW a4 b4
 have c2:=ZbW a3 b3
 have c1:=ZbW a2 c2
 refine J17 (Jnu n) ?_ ?_
 ·match n with
  | 0=>exact λ _ h=>by cases h
  | 1=>exact all1 ⟨h1,a0,a6⟩
  | 2=>exact allc ⟨h1,a0,a6⟩ (all1 ⟨h2,b1,b4⟩)
  | 3=>exact allc ⟨h2,b1,c2⟩ (all1 ⟨h1,a0,b3⟩)
  | 4=>exact allc ⟨h1,a0,c1⟩ (all1 ⟨h2,b2,a6⟩)
  | 5=>exact allc ⟨h1,b2,b4⟩ (all1 ⟨h1,a0,c1⟩)
  | n+6=>exact allc ⟨h2,b1,b4⟩ (allc ⟨h1,a0,a6⟩ (all1 ⟨h3,b2,b3⟩))
 ·match n with
  | 0=>exact .nil
  | 1=>exact pw1
  | 2=>exact pw2 (.inr (.inr ⟨ZI ne,.inl ⟨a1,a5⟩⟩))
  | 3=>exact pw2 (.inr (.inr ⟨ne,.inr ⟨a1,a3⟩⟩))
  | 4=>exact pw2 (.inr (.inl a2))
  | 5=>exact pw2 (.inl a2)
  | n+6=>exact .cons (allc (.inr (.inr ⟨ne,.inr ⟨a1,a5⟩⟩)) (all1 (.inr (.inr ⟨n4,.inl ⟨a2,a4⟩⟩)))) (pw2 (.inr (.inr ⟨n3,.inl ⟨ZbV a1 a2,ZbV a4 a5⟩⟩)))
theorem xbin {f:IV->IV->IH->Res IV}{a b:E1}{x y:IV}{σ:ISt}{h1 h2:IH}{P:IV->IH->Prop}(ea:a σ h=.ok x h1)(eb:b σ h1=.ok y h2)(q:WR (f x y h2) P):WR (Jc f a b σ h) P:=by rw[binE ea eb];exact q
theorem QL {C:IH}{σ:ISt}{Pp s:Nat}{ps:List IV}{w:Str}{a b x y:Int}(gP:C[Pp]?=Za (.lst ps))(e3:Ja 3 σ C=.ok (.ref Pp) C)(ew:Ja s σ C=.ok (.str w) C)(ea:atI ps a=Za (.int x))(eb:atI ps b=Za (.int y)) :
  JA (Jb (Ja s) (Jb (Jc Jf (Ja 3) (eC (.int a))) (Jb (Jc Jf (Ja 3) (eC (.int b))) Jd))) σ C=.ok (tupH (w,x,y)) C:=tupE (arg3 ew (ixlE e3 rfl gP ea) (ixlE e3 rfl gP eb)) rfl
section
variable {C:IH}{X O Pp i0 i1 i2 i3 i4 i5 i6:Nat}{xs:List Int}{one other third:Str}{p0 p1 p2 p3 p4 p5 y8:Int}{a1 a2 a3 a4 a5 a6 a7 a8:Option IV}{N:ISt->IH->Prop}
def Wy (one other third:Str)(p0 p1 p2 p3 p4 p5:Int)(C:IH)(v:IV)(h':IH):Prop:=∃q n,v=.ref q/\C.length<=q/\h'[q]?=Za (.lst (((way7 one other third p0 p1 p2 p3 p4 p5 n).filter λ a=>decide (a.2.1<a.2.2)).map tupH))/\Ex C h'
theorem Wy.mono {C D:IH}{v:IV}{h':IH}(w:Wy one other third p0 p1 p2 p3 p4 p5 D v h')(x:Ex C D):Wy one other third p0 p1 p2 p3 p4 p5 C v h':=let ⟨q,n,e,l,g,y⟩:=w;⟨q,n,e,ZZ x.len l,g,x.trans y⟩
theorem Jw6 (c0:C[i0]?=Za (.lst []))(c1:C[i1]?=Za (.lst [tupH (one,p0,p5)]))(c2:C[i2]?=Za (.lst [tupH (one,p0,p5),tupH (other,p1,p4)]))(c3:C[i3]?=Za (.lst [tupH (other,p1,p2),tupH (one,p0,p3)]))
  (c4:C[i4]?=Za (.lst [tupH (one,p0,p1),tupH (other,p2,p5)]))(c5:C[i5]?=Za (.lst [tupH (one,p2,p4),tupH (one,p0,p1)]))(c6:C[i6]?=Za (.lst [tupH (other,p1,p4),tupH (one,p0,p5),tupH (third,p2,p3)]))(cO:C[O]?=Za (.lst [.ref i0,.ref i1,.ref i2,.ref i3,.ref i4,.ref i5,.ref i6]))(hX:C[X]?=Za (.lst (xs.map .int)))(e8:atI (xs.map IV.int) 8=Za (.int y8)) :
  WS (Jef k [Za (.ref X),a1,a2,a3,a4,a5,a6,a7,Za (.ref O)] C) N (Wy one other third p0 p1 p2 p3 p4 p5 C):=by
 have hb:=J2
 have pick:∃(n m:Nat),atI [IV.ref i0,IV.ref i1,IV.ref i2,IV.ref i3,IV.ref i4,IV.ref i5,IV.ref i6] (y8%7)=Za (.ref m)/\C[m]?=Za (.lst ((way7 one other third p0 p1 p2 p3 p4 p5 n).map tupH)):=by
  have:y8%7=0∨y8%7=1∨y8%7=2∨y8%7=3∨y8%7=4∨y8%7=5∨y8%7=6:=by omega
  rcases this with e|e|e|e|e|e|e<;>rw[e]
  ·exact⟨0,i0,JP,c0⟩
  ·exact⟨1,i1,JX,c1⟩
  ·exact⟨2,i2,Qm,c2⟩
  ·exact⟨3,i3,Qy,c3⟩
  ·exact⟨4,i4,Vf,c4⟩
  ·exact⟨5,i5,JI (n:=5) rfl,c5⟩
  ·exact⟨6,i6,JI (n:=6) rfl,c6⟩
 obtain⟨n,m,em,gm⟩:=pick
 have ln:=Jnu (one:=one) (other:=other) (third:=third) (p0:=p0) (p1:=p1) (p2:=p2) (p3:=p3) (p4:=p4) (p5:=p5) n
 refine xret (WR.mono (YD (h:=C) (xs:=(way7 one other third p0 p1 p2 p3 p4 p5 n).map tupH) (chk:=λ h'=>h'[m]?=Za (.lst ((way7 one other third p0 p1 p2 p3 p4 p5 n).map tupH))) (p:=Jza) (f:=λ v=>v) ?_ (by rw[Zj];omega) (λ h2 q=>q _ _ gm) ?_ ?_) ?_)
 ·rw[JW]
  exact Je (ixlE rfl (modE (ixlE rfl rfl hX e8) rfl (by decide)) cO em) ((JN _).mpr ⟨_,gm,rfl,rfl,rfl⟩)
 ·intro v hv h2 q
  obtain⟨a,_,rfl⟩:=Z3.mp hv
  unfold Jcs
  exact Je (ltE (ixtE rfl rfl rfl) (ixtE rfl rfl rfl)) ⟨rfl,.refl _⟩
 ·intro v hv _ h2 q
  exact⟨rfl,.refl _⟩
 ·rintro _ _ ⟨rfl,g,rfl⟩
  refine⟨_,n,rfl,Zq _,?_,.cons _ _ _⟩
  rw[J4,List.map_id',Jqf]
theorem Jw5 (B:Nat)(lB:B<=O)(c0:C[i0]?=Za (.lst []))(c1:C[i1]?=Za (.lst [tupH (one,p0,p5)]))(c2:C[i2]?=Za (.lst [tupH (one,p0,p5),tupH (other,p1,p4)]))(c3:C[i3]?=Za (.lst [tupH (other,p1,p2),tupH (one,p0,p3)]))
  (c4:C[i4]?=Za (.lst [tupH (one,p0,p1),tupH (other,p2,p5)]))(c5:C[i5]?=Za (.lst [tupH (one,p2,p4),tupH (one,p0,p1)]))(cO:C[O]?=Za (.lst [.ref i0,.ref i1,.ref i2,.ref i3,.ref i4,.ref i5]))(gP:C[Pp]?=Za (.lst [.int p0,.int p1,.int p2,.int p3,.int p4,.int p5]))(hX:C[X]?=Za (.lst (xs.map .int)))(XO:X≠O)(e8:atI (xs.map IV.int) 8=Za (.int y8))
  {D:IH}(xD:Ex D C)(lD:D.length<=O) :
  WS (Jee k [Za (.ref X),a1,a2,Za (.ref Pp),Za (.str one),a5,Za (.str other),Za (.str third),Za (.ref O)] C) N (Wy one other third p0 p1 p2 p3 p4 p5 D):=by
 have hb:=J2
 have ne:∀{i:Nat}{ys:List IV},C[i]?=Za (.lst ys)->Nat.beq ys.length 6=Zk->O≠i:=λ e l z=>by
  rw[<- z,cO] at e
  cases e
  cases l
 refine xseq (Q7 (Va rfl cO VU (Je (arg1 (lstE (arg3 (QL gP rfl rfl rfl rfl) (QL gP rfl rfl rfl rfl) (QL gP rfl rfl rfl rfl)) rfl)) (xapp (grow cO) (by show(6:Nat)<_;omega) ?_))))
 have st:∀{i:Nat}{o o':IX}{h:IH},h[i]?=Za o->O≠i->(h.set O o')[i]?=Za o:=λ e n=>by rw[ZG n];exact e
 have lO:=(Zo.mp cO).1
 refine WS.mono (Jw6 (k:=k) (p0:=p0) (p1:=p1) (p2:=p2) (p3:=p3) (p4:=p4) (p5:=p5) (one:=one) (other:=other) (third:=third) (N:=N) (st (grow c0) (ne c0 rfl)) (st (grow c1) (ne c1 rfl)) (st (grow c2) (ne c2 rfl)) (st (grow c3) (ne c3 rfl)) (st (grow c4) (ne c4 rfl)) (st (grow c5) (ne c5 rfl)) (st Jk (by omega)) (by rw[ZK (by rw[Zx];omega)];rfl) (st (grow hX) (ZI XO)) e8) (λ _ _ z=>z) λ v h' w=>w.mono ?_
 exact Jsv λ j o e=>st (grow (xD.get e)) (by have:=(Zo.mp e).1;omega)
theorem Jw4 (c0:C[i0]?=Za (.lst []))(c1:C[i1]?=Za (.lst [tupH (one,p0,p5)]))(c2:C[i2]?=Za (.lst [tupH (one,p0,p5),tupH (other,p1,p4)]))(c3:C[i3]?=Za (.lst [tupH (other,p1,p2),tupH (one,p0,p3)]))
  (cO:C[O]?=Za (.lst [.ref i0,.ref i1,.ref i2,.ref i3]))(gP:C[Pp]?=Za (.lst [.int p0,.int p1,.int p2,.int p3,.int p4,.int p5]))(hX:C[X]?=Za (.lst (xs.map .int)))(e8:atI (xs.map IV.int) 8=Za (.int y8)) :
  WS (Jed k [Za (.ref X),a1,a2,Za (.ref Pp),Za (.str one),a5,Za (.str other),Za (.str third),Za (.ref O)] C) N (Wy one other third p0 p1 p2 p3 p4 p5 C):=by
 have hb:=J2
 refine xseq (xset (xbin rfl (lstE (arg2 (lstE (arg2 (QL gP rfl rfl rfl rfl) (QL gP rfl rfl rfl rfl)) rfl) (lstE (arg2 (QL (grow gP) rfl rfl rfl rfl) (QL (grow gP) rfl rfl rfl rfl)) rfl)) rfl) ?_))
 refine(Jj2 ..).mpr ⟨_,grow (grow (grow cO)),_,Jk,by simp;omega,?_⟩
 have xC:∀a b c d,Ex C (C++[a]++[b]++[c]++[d]):=λ a b c d=>(Ex.one _ _).trans ((Ex.one _ _).trans ((Ex.one _ _).trans (.one _ _)))
 have lX:=(Zo.mp hX).1
 exact Jw5 (k:=k) (p0:=p0) (p1:=p1) (p2:=p2) (p3:=p3) (p4:=p4) (p5:=p5) (one:=one) (other:=other) (N:=N) 0 (ZY _) ((xC _ _ _ _).get c0) ((xC _ _ _ _).get c1) ((xC _ _ _ _).get c2) ((xC _ _ _ _).get c3) (grow (grow (grow Jk))) (grow (grow Jk)) Jk ((xC _ _ _ _).get gP) ((xC _ _ _ _).get hX) (by simp only[Zx];omega) e8 (xC _ _ _ _) (by simp only[Zx];omega)
theorem Jw3 (gP:C[Pp]?=Za (.lst [.int p0,.int p1,.int p2,.int p3,.int p4,.int p5]))(hX:C[X]?=Za (.lst (xs.map .int)))(e8:atI (xs.map IV.int) 8=Za (.int y8)) :
  WS (Jec k [Za (.ref X),a1,a2,Za (.ref Pp),Za (.str one),a5,Za (.str other),Za (.str third),a8] C) N (Wy one other third p0 p1 p2 p3 p4 p5 C):=by
 refine xseq (xset (Je (lstE (arg4 (lstE rfl rfl) (lstE (arg1 (QL (grow gP) rfl rfl rfl rfl)) rfl) (lstE (arg2 (QL (grow (grow gP)) rfl rfl rfl rfl) (QL (grow (grow gP)) rfl rfl rfl rfl)) rfl) (lstE (arg2 (QL (grow (grow (grow gP))) rfl rfl rfl rfl) (QL (grow (grow (grow gP))) rfl rfl rfl rfl)) rfl)) rfl) ?_))
 have xC:∀a b c d e,Ex C (C++[a]++[b]++[c]++[d]++[e]):=λ a b c d e=>(Ex.one _ _).trans ((Ex.one _ _).trans ((Ex.one _ _).trans ((Ex.one _ _).trans (.one _ _))))
 exact WS.mono (Jw4 (k:=k) (p0:=p0) (p1:=p1) (p2:=p2) (p3:=p3) (p4:=p4) (p5:=p5) (one:=one) (other:=other) (N:=N) (grow (grow (grow (grow Jk)))) (grow (grow (grow Jk))) (grow (grow Jk)) (grow Jk) Jk ((xC _ _ _ _ _).get gP) ((xC _ _ _ _ _).get hX) e8) (λ _ _ z=>z) λ v h' w=>w.mono (xC _ _ _ _ _)
end
def mdOf (len:Int)(v:IV):IV:=match v with|.int x=>.int (x%len)|_=>.non
theorem Js3 {X W:Nat}{xs:List Int}{ws:List Str}{len:Int}(hX:h[X]?=Za (.lst (xs.map .int)))(lx:9<=xs.length)(hW:h[W]?=Za (.lst (ws.map .str)))(lw:ws.length=3)(hw:∀x∈ws,IsNm x)(nd:ws.Nodup)(h1:1<=len) :
  WR (Jdq (k+1) [.ref X,.int len,.ref W] h) λ v h'=>∃q hs,v=.ref q/\h.length<=q/\h'[q]?=Za (.lst (hs.map tupH))/\HsOk len hs/\Ex h h':=by
 have hb:=J2
 rw[Jkx]
 have l4:(xs.take 6).length=6:=by rw[ZaV];omega
 refine xfin (xseq (xset (xb (xb (WR.mono (Ql (h:=h++[IX.lst ((xs.take 6).map IV.int)]) (xs:=(xs.take 6).map IV.int) (chk:=λ h'=>h'[h.length]?=Za (.lst ((xs.take 6).map IV.int))) (f:=mdOf len) ?_ (by rw[Zj,l4];omega) (λ h2 q=>q _ _ Jk) ?_) ?_)))))
 ·rw[JW]
  refine(V8 ..).mpr (Je rfl (Je rfl (Je rfl ((YR ..).mpr ⟨_,hX,?_⟩))))
  rw[show(Za (6:Int))=Za ((6:Nat):Int) from rfl,Ji5,<-List.map_take]
  exact(JN _).mpr ⟨_,Jk,rfl,rfl,rfl⟩
 ·intro v hv h2 q
  obtain⟨x,hx,rfl⟩:=Z3.mp hv
  unfold Jcr
  exact Je (modE rfl rfl (by omega)) ⟨rfl,.refl _⟩
 ·rintro _ _ ⟨rfl,g,rfl⟩
  have em:((xs.take 6).map IV.int).map (mdOf len)=((xs.take 6).map (· %len)).map IV.int:=by
   rw[ZaD,ZaD]
   rfl
  rw[em]
  have l5:((xs.take 6).map (· %len)).length=6:=by rw[Zj,l4]
  obtain⟨p0,p1,p2,p3,p4,p5,es,a0,a1,a2,a3,a4,a5,a6⟩:=J3e (ms:=(xs.take 6).map (· %len)) (len:=len) l5 λ x hx=>by
   obtain⟨y,_,rfl⟩:=Z3.mp hx
   exact⟨ZM _ (by omega),ZH _ (by omega)⟩
  generalize hh1:h++[IX.lst ((xs.take 6).map IV.int)]=hA
  have xA:Ex h hA:=by rw[<- hh1];exact .one _ _
  refine Je rfl (Je ((Juj (ms:=(xs.take 6).map (· %len)) J4 (by omega)).trans (by rw[es])) ?_)
  have xB:Ex hA (hA++IX.lst (((xs.take 6).map (· %len)).map IV.int)::g++[IX.lst ([p0,p1,p2,p3,p4,p5].map IV.int)]):=(Ex.cons _ _ _).trans (.one _ _)
  have gP:(hA++IX.lst (((xs.take 6).map (· %len)).map IV.int)::g++[IX.lst ([p0,p1,p2,p3,p4,p5].map IV.int)])[(hA++IX.lst (((xs.take 6).map (· %len)).map IV.int)::g).length]?=Za (.lst [.int p0,.int p1,.int p2,.int p3,.int p4,.int p5]):=Jk
  generalize (hA++IX.lst (((xs.take 6).map (· %len)).map IV.int)::g).length=Pp at gP ⊢
  generalize hA++IX.lst (((xs.take 6).map (· %len)).map IV.int)::g++[IX.lst ([p0,p1,p2,p3,p4,p5].map IV.int)]=hB at xB gP ⊢
  have xh:=xA.trans xB
  have hX2:=xh.get hX
  have hW2:=xh.get hW
  obtain⟨y6,e6⟩:=at_x (xs:=xs) (n:=6) (by omega)
  obtain⟨y7,e7⟩:=at_x (xs:=xs) (n:=7) (by omega)
  obtain⟨y8,e8⟩:=at_x (xs:=xs) (n:=8) (by omega)
  obtain⟨i,hi⟩:∃i:Nat,y6%3=i:=⟨(y6%3).toNat,by omega⟩
  obtain⟨j,hj⟩:∃j:Nat,(y6+(1+y7%2))%3=j:=⟨((y6+(1+y7%2))%3).toNat,by omega⟩
  obtain⟨l,hl⟩:∃l:Nat,(y6+2*(1+y7%2))%3=l:=⟨((y6+2*(1+y7%2))%3).toNat,by omega⟩
  have hi3:i<ws.length:=by omega
  have hj3:j<ws.length:=by omega
  have hl3:l<ws.length:=by omega
  have aw:∀n (hn:n<ws.length),atI (ws.map IV.str) (n:Int)=Za (.str ws[n]):=λ n hn=>JI (by rw[Z1,Zb hn];rfl)
  have A1:=aw i hi3
  have A2:=aw j hj3
  have A3:=aw l hl3
  rw[<- hi] at A1
  rw[<- hj] at A2
  rw[<- hl] at A3
  have nn:∀{i j:Nat}(hi:i<ws.length)(hj:j<ws.length),i≠j->ws[i]≠ws[j]:=λ hi hj ne e=>ne ((ZcJ nd).mp e)
  refine xseq (xset (Je (ixlE rfl (modE (ixlE rfl rfl hX2 e6) rfl (by decide)) hW2 A1) ?_))
  refine xseq (xset (Je (addE rfl (modE (ixlE rfl rfl hX2 e7) rfl (by decide))) ?_))
  refine xseq (xset (Je (ixlE rfl (modE (addE (ixlE rfl rfl hX2 e6) rfl) rfl (by decide)) hW2 A2) ?_))
  refine xseq (xset (Je (ixlE rfl (modE (addE (ixlE rfl rfl hX2 e6) (mulE rfl rfl (.inl (by decide)))) rfl (by decide)) hW2 A3) ?_))
  refine WS.mono (Jw3 (k:=k) (p0:=p0) (p1:=p1) (p2:=p2) (p3:=p3) (p4:=p4) (p5:=p5) (N:=λ _ _=>False) gP hX2 e8) (λ _ _ z=>z.elim) ?_
  rintro v h' ⟨q,n,rfl,lq,gq,x'⟩
  have:=xh.len
  exact⟨q,_,rfl,by omega,gq,Jyl (len:=len) n (hw _ (Z5 hi3)) (hw _ (Z5 hj3)) (hw _ (Z5 hl3)) (nn hi3 hj3 (by omega)) (nn hl3 hi3 (by omega)) (nn hl3 hj3 (by omega)) a0 a1 a2 a3 a4 a5 a6,xh.trans x'⟩
end
end
section
seal L4.run
abbrev tp5 (r:RH)(q:Nat):List IV:=[.int r.1.gap,.int r.1.len,.int r.1.due,.int r.1.late,.ref q]
structure F7 (unit:Int)(r:RH):Prop where
 g1:unit<=r.1.gap
 g2:r.1.gap<8*unit
 l1:1<=r.1.len
 l2:r.1.len<=r.1.gap
 d1:1<=r.1.due
 d2:r.1.due<=r.1.gap
 t1:0<=r.1.late
 t2:r.1.late<=3*r.1.gap/2
 ok:HsOk r.1.len r.2
theorem Jyb {ws:List Str}(hw:∀x∈ws,IsNm x):ZX (ws.map PyData.str)=Zh:=by
 induction ws with
 | nil=>rfl
 | cons x xs ih =>
  have q:=hw x (Z4 ..)
  have e:Za0 (.str x)=Zh:=by
   simp only[Za0]
   unfold Ze6
   rw[<- ZdF,ZaW]
   intro c hc
   have:=q.2.2 c hc
   simp only[decide_eq_true_eq]
   omega
  rw[Z6,ZX,e,ih λ y hy=>hw y (Zn _ hy)]
  rfl
section
variable {k:Nat}{h:IH}
theorem Jmu {W j:Nat}{ws:List Str}(hW:h[W]?=Za (.lst (ws.map .str)))(hw:∀x∈ws,IsNm x)(hj:h[j]?=Za (.lst [])):cNe (.ref W) (.ref j) h=.ok (.bl (!ws.isEmpty)) h:=by
 have e1:toD h 6 (.ref W)=Za (.list (ws.map PyData.str)):=by
  rw[XM hW,Jmi (g:=λ v=>match v with|.str x=>.str x|_=>.none) λ x hx=>?_]
  ·simp
  ·obtain⟨y,_,rfl⟩:=Z3.mp hx
   rfl
 have e2:toD h 6 (.ref j)=Za (.list []):=by
  rw[XM hj]
  rfl
 have e3:Vg (.ref W) (.ref j) h=Za ws.isEmpty:=by
  unfold Vg
  rw[e1,e2]
  dsimp only
  rw[if_pos ⟨by rw[Za0];exact Jyb hw,by rw[Za0,ZX]⟩,ZcM]
  cases ws with
  | nil=>rw[Zba,Zd1];rfl
  | cons a as=>rw[Z6,Zd1];rfl;all_goals intros;simp_all
 unfold cNe
 have e4:Xe (.ref W) (.ref j)=Zc:=rfl
 rw[e4]
 dsimp only
 rw[e3]
theorem pk (xs:List Int)(hn:(xs.length:Int)=n)(h0:0<n):∃x∈xs,atI (xs.map IV.int) (y%n)=Za (.int x):=by
 have a:=ZM y (b:=n) (by omega)
 have b:=ZH y h0
 have l:(y%n).toNat<xs.length:=by omega
 exact⟨xs[(y%n).toNat],Z5 l,Jlz a (by rw[Z1,Zb l];rfl)⟩
theorem Jtz {c unit:Int}{ws:List Str}(hu:1<=unit)(hu2:unit<=10^40)(hW:h[W]?=Za (.lst (ws.map .str)))(hw:∀x∈ws,IsNm x)(nd:ws.Nodup)(lw:ws=[]∨ws.length=3) :
  WR (Jdr (k+2) [.int c,.int unit,.ref W] h) λ v h'=>Ex h h'/\∃r q,F7 unit r/\v=.tup (tp5 r q)/\h.length<=q/\h'[q]?=Za (.lst (r.2.map tupH))/\(ws=[]->r.2=[]):=by
 have hb:=J2
 rw[Jky]
 refine xfin (xseq (xset (xb (Je (arg2 rfl rfl) (WR.mono (Jlu (k:=k) (h:=h) c 17 (by decide)) ?_)))))
 rintro _ h1 ⟨i,xs,rfl,_,hi,lx,hx,x1⟩
 have at_:∀n:Nat,n<17->∃x,0<=x/\atI (xs.map IV.int) (n:Int)=Za (.int x):=λ n hn=>⟨xs[n],(hx _ (Z5 _)).1,JI (by rw[Z1,Zb (by omega)];rfl)⟩
 obtain⟨y0,z0,e0⟩:=at_ 0 (by decide)
 obtain⟨y1,z1,e1⟩:=at_ 1 (by decide)
 obtain⟨y2,z2,e2⟩:=at_ 2 (by decide)
 obtain⟨y3,z3,e3⟩:=at_ 3 (by decide)
 obtain⟨y4,z4,e4⟩:=at_ 4 (by decide)
 obtain⟨y5,z5,e5⟩:=at_ 5 (by decide)
 obtain⟨y6,z6,e6⟩:=at_ 6 (by decide)
 obtain⟨y7,z7,e7⟩:=at_ 7 (by decide)
 clear at_ hx
 have b1:unit*1<=unit*(1+y0%7):=ZbQ (by omega) (by omega)
 have b2:unit*(1+y0%7)<=unit*7:=ZbQ (by omega) (by omega)
 have b3:=ZM y1 (b:=1+unit/2) (by omega)
 have b4:=ZH y1 (b:=1+unit/2) (by omega)
 refine xseq (xset (Je (addE (mulE rfl (addE rfl (modE (ixlE rfl rfl hi e0) rfl (by decide))) (.inr (.inl (by omega)))) (modE (ixlE rfl rfl hi e1) (addE rfl (QB rfl rfl (by decide) (by decide))) (by omega))) ?_))
 obtain⟨g,eg,g1,g2⟩:∃g,unit*(1+y0%7)+y1%(1+unit/2)=g/\unit<=g/\g<8*unit:=⟨_,rfl,by omega,by omega⟩
 rw[eg]
 clear eg b1 b2 b3 b4
 have pg':(0:Int)<g:=by omega
 have d1:=ZM y2 (b:=g) (by omega)
 have d2:=ZH y2 pg'
 obtain⟨dd,hd,ed⟩:=pk (n:=2) (y:=y3) [0,y2%g] rfl (by decide)
 have hd:0<=dd/\dd<g:=by simp only[Z7,ZS,or_false] at hd;omega
 refine xseq (xset (Je (subE rfl (pkE (arg2 rfl (modE (ixlE rfl rfl hi e2) rfl pg')) rfl (modE (ixlE rfl rfl (grow hi) e3) rfl (by decide)) ed)) ?_))
 have xA:Ex h1 (h1++[IX.lst [IV.int 0,IV.int (y2%g)]]):=.one _ _
 generalize h1++[IX.lst [IV.int 0,IV.int (y2%g)]]=hA at xA ⊢
 have hiA:=xA.get hi
 have t1:=ZM y4 (b:=1+g/3) (by omega)
 have t2:=ZH y4 (b:=1+g/3) (by omega)
 have t3:=ZM y4 (b:=1+3*g/2) (by omega)
 have t4:=ZH y4 (b:=1+3*g/2) (by omega)
 obtain⟨lt,hl,el⟩:=pk (n:=4) (y:=y5) [0,0,y4%(1+g/3),y4%(1+3*g/2)] rfl (by decide)
 have hl:0<=lt/\lt<=3*g/2:=by simp only[Z7,ZS,or_false] at hl;omega
 refine xseq (xset (Je (pkE (arg4 rfl rfl (modE (ixlE rfl rfl hiA e4) (addE rfl (QB rfl rfl (by decide) (by decide))) (by omega)) (modE (ixlE rfl rfl hiA e4) (addE rfl (QB (mulE rfl rfl (.inl (by decide))) rfl (by decide) (by decide))) (by omega))) rfl (modE (ixlE rfl rfl (grow hiA) e5) rfl (by decide)) el) ?_))
 have xB:Ex hA (hA++[IX.lst [IV.int 0,IV.int 0,IV.int (y4%(1+g/3)),IV.int (y4%(1+3*g/2))]]):=.one _ _
 generalize hA++[IX.lst [IV.int 0,IV.int 0,IV.int (y4%(1+g/3)),IV.int (y4%(1+3*g/2))]]=hB at xB ⊢
 have hiB:=xB.get hiA
 obtain⟨dv,hv,ev⟩:=pk (n:=4) (y:=y7) [1,2,4,9] rfl (by decide)
 have hv:0<dv/\dv<=9:=by simp only[Z7,ZS,or_false] at hv;omega
 obtain⟨M,eM,M1,M2⟩:∃M:Int,(if g/dv>1 then g/dv else 1)=M/\1<=M/\M<=g:=by
  have:g/dv<=g:=Int.ediv_le_self _ (by omega)
  split
  ·exact⟨_,rfl,by omega,this⟩
  ·exact⟨_,rfl,by omega,by omega⟩
 have s1:=ZM y6 (b:=M) (by omega)
 have s2:=ZH y6 (b:=M) (by omega)
 refine xseq (xset (Je (addE rfl (modE (ixlE rfl rfl hiB e6) (okc (maxE rfl (QB rfl (pkE (arg4 rfl rfl rfl rfl) rfl (modE (ixlE rfl rfl (grow hiB) e7) rfl (by decide)) ev) hv.1 (Jjj (b:=9) (by omega) (by decide)))) (congrArg IV.int eM)) (by omega))) ?_))
 generalize hlen:1+y6%M=len
 have xC:Ex hB (hB++[IX.lst [IV.int 1,IV.int 2,IV.int 4,IV.int 9]]):=.one _ _
 generalize hB++[IX.lst [IV.int 1,IV.int 2,IV.int 4,IV.int 9]]=hC at xC ⊢
 have x1C:=((x1.trans xA).trans xB).trans xC
 have lC:=x1C.len
 have hiC:=(xB.trans xC).get hiA
 have xD:Ex hC (hC++[IX.lst []]++[IX.lst []]):=(Ex.one _ _).trans (.one _ _)
 have gE:(hC++[IX.lst []]++[IX.lst []])[hC.length]?=Za (.lst []):=grow Jk
 have base:∀hs:List Hd,HsOk len hs->F7 unit (⟨⟨⟨#[]⟩,g,len,g-dd,lt⟩,hs⟩:RH):=λ hs ok=>⟨g1,g2,by show 1<=len;omega,by show len<=g;omega,by show 1<=g-dd;omega,by show g-dd<=g;omega,hl.1,hl.2,ok⟩
 have tst:∀{σ:ISt}{a:E1},a σ (hC++[IX.lst []])=.ok (.ref W) (hC++[IX.lst []])->Jh asB (Jc cNe a (J0 Jd)) σ (hC++[IX.lst []])=.ok (!ws.isEmpty) (hC++[IX.lst []]++[IX.lst []]):=λ ea=>tofE ((binE ea (lstE rfl rfl)).trans (Jmu (xD.get (x1C.get hW)) hw Jk))
 refine xseq (xset (Je (lstE rfl rfl) (xseq ?_)))
 rcases lw with rfl|lw
 ·exact xiff (tst rfl) (xnil (xret (Je (tupE rfl rfl) ⟨x1C.trans xD,⟨⟨⟨#[]⟩,g,len,g-dd,lt⟩,[]⟩,_,base [] ⟨by simp,by simp,λ m n hm hn=>absurd hn (by simp)⟩,rfl,by omega,gE,λ _=>rfl⟩)))
 ·have ne:ws.isEmpty=Zk:=by cases ws with|nil=>simp at lw|cons _ _=>rfl
  refine xift (okc (tst rfl) (by rw[ne];rfl)) (xset (xb (xb ?_)))
  refine(V8 ..).mpr (Je rfl (Je rfl (Je rfl ((YR ..).mpr ⟨_,xD.get hiC,?_⟩))))
  rw[show(Za (8:Int))=Za ((8:Nat):Int) from rfl,Ji4,<-Zes]
  have xE:Ex (hC++[IX.lst []]++[IX.lst []]) (hC++[IX.lst []]++[IX.lst []]++[IX.lst ((xs.drop 8).map IV.int)]):=.one _ _
  refine xb (Je (arg2 rfl rfl) (Je rfl (WR.mono (Js3 (k:=k) Jk (by rw[ZbI];omega) (xE.get (xD.get (x1C.get hW))) lw hw nd (by omega)) ?_)))
  rintro _ h3 ⟨q,hs,rfl,hq,gq,ok,x3⟩
  have l1:=(xD.trans xE).len
  exact xret (Je (tupE rfl rfl) ⟨(x1C.trans (xD.trans xE)).trans x3,⟨⟨⟨#[]⟩,g,len,g-dd,lt⟩,hs⟩,q,base hs ok,rfl,by omega,gq,λ e=>by rw[e] at ne;cases ne⟩)
end
end
section
seal L4.run
abbrev tp6 (r:RH)(q:Nat):IV:=.tup (.str r.1.name::tp5 r q)
structure RowT (h:IH)(lo:Nat)(ys:List IV)(rs:List RH):Prop where
 len:ys.length=rs.length
 at_:∀(i:Nat) y r,ys[i]?=Za y->rs[i]?=Za r->∃q,y=tp6 r q/\q≠lo/\h[q]?=Za (.lst (r.2.map tupH))
theorem RowT.kpb (k:KpB lo h h')(w:RowT h lo ys rs):RowT h' lo ys rs:=⟨w.len,λ i y r a b=>let ⟨q,e,n,g⟩:=w.at_ i y r a b;⟨q,e,n,k _ _ n g⟩⟩
theorem RowT.kp (k:Kp h h')(w:RowT h lo ys rs):RowT h' lo ys rs:=w.kpb λ _ _ _ q=>k _ _ q
theorem RowT.get {lo:Nat}(w:RowT h lo ys rs){n:Nat}(e:rs[n]?=Za r):∃q,ys[n]?=Za (tp6 r q)/\h[q]?=Za (.lst (r.2.map tupH)):=by
 have hn:n<ys.length:=by rw[w.len];exact(Zo.mp e).1
 obtain⟨q,e1,_,g⟩:=w.at_ n _ r (Zb hn) e
 exact⟨q,by rw[Zb hn,e1],g⟩
theorem RowT.snoc {r:RH}(w:RowT h lo ys rs)(n:q≠lo)(g:h[q]?=Za (.lst (r.2.map tupH))):RowT h lo (ys++[tp6 r q]) (rs++[r]):=by
 have wl:=w.len
 refine⟨by simp[wl],λ i y s a b=>?_⟩
 by_cases hi:i<ys.length
 ·rw[ZE hi] at a
  rw[ZE (by omega)] at b
  exact w.at_ i y s a b
 ·have li:=(Zo.mp a).1
  rw[Zx,ZaA] at li
  obtain rfl:i=ys.length:=by omega
  rw[ZA (Zq _),Zdd] at a
  rw[wl,ZA (Zq _),Zdd] at b
  cases a
  cases b
  exact⟨q,rfl,n,g⟩
structure Dr (c unit:Int)(rs:List RH):Prop where
 u1:1<=unit
 u2:unit<=10^40
 f:∀r∈rs,F7 unit r
 nm:(rs.map λ r=>r.1.name)=(ZT rs.length).map (wd c)
theorem F7.to8 (f:F7 unit r)(hu:1<=unit)(hn:IsNm r.1.name):F8 unit r:=by
 have g1:=f.g1
 have g2:=f.g2
 have t2:=f.t2
 exact⟨hn,f.g1,by omega,f.l1,f.d1,f.d2,f.t1,by omega,f.ok⟩
theorem Dr.gd (D:Dr c unit rs)(hl:rs.length<=7):Gd unit rs:=by
 refine⟨D.u1,D.u2,hl,λ r hr=>(D.f r hr).to8 D.u1 ?_,?_⟩
 ·have:r.1.name∈(ZT rs.length).map (wd c):=by rw[<- D.nm];exact List.mem_map_of_mem hr
  obtain⟨j,_,e⟩:=Z3.mp this
  rw[<- e]
  exact Jr3 c j
 ·rw[D.nm,List.Nodup,Zdv]
  refine(ZdG (n:=rs.length)).imp_of_mem λ {a b} ha hb hne e=>hne ?_
  exact Jwb (by have:=Za3.mp ha;omega) (by have:=Za3.mp hb;omega) e
def SQ (h:IH)(held:Bool)(v:IV)(h':IH):Prop:=Ex h h'/\∃S lo ys rs c unit,v=.ref S/\h.length<=S/\h'[S]?=Za (.lst ys)/\RowT h' lo ys rs/\Dr c unit rs/\rs.length<=5/\(held=Zk->∀r∈rs,r.2=[])
def wOf (c:Int)(v:IV):IV:=match v with
 | .int q=>.str (wd c q.toNat)
 | _=>.non
section
variable {k:Nat}{h:IH}
theorem e15 (σ:ISt)(h:IH):Jc JE (eC (.int 10)) (eC (.int 15)) σ h=.ok (.int (10^15)) h:=Ju (by
 rw[Vn,Qh,Qh,V7]
 exact⟨by decide,rfl,rfl⟩)
theorem e40 (σ:ISt)(h:IH):Jc JE (eC (.int 10)) (eC (.int 40)) σ h=.ok (.int (10^40)) h:=Ju (by
 rw[Vn,Qh,Qh,V7]
 exact⟨by decide,rfl,rfl⟩)
def SmI (h hB:IH)(ns:List Int)(held:Bool)(x0 unit x1:Int)(W:Nat)(n:Nat)(σ:ISt)(h':IH):Prop:=∃ys rs g a b,h'=hB++.lst ys::g/\σ=[Za (.rol (ns.map .int)),Za (.bl held),Za (.int x0),Za (.int unit),Za (.int x1),Za (.ref W),Za (.ref hB.length),a,b]/\RowT h' hB.length ys rs/\rs.length=n/\Dr (x1/7) unit rs/\(held=Zk->∀r∈rs,r.2=[])
theorem Jyc (ns:List Int)(held:Bool):WR (Jfd (k+4) [.rol (ns.map .int),.bl held] h) (SQ h held):=by
 have hb:=J2
 rw[Jmb]
 have c0:=Jl4 (k:=k+2) (h:=h) ns 0 (by decide)
 have c1:=λ (h:IH)=>Jl4 (k:=k+2) (h:=h) ns 1 (by decide)
 generalize ns.getD (Zen 0) 0=x0 at c0
 generalize ns.getD (Zen 1) 0=x1 at c1
 obtain⟨U,hU,eU⟩:=pk (n:=4) (y:=x0) [4,10^15,10^15,10^40] rfl (by decide)
 have hU:0<U/\U<=10^40:=by
  simp only[Z7,ZS,or_false] at hU
  rcases hU with rfl|rfl|rfl|rfl<;>decide +kernel
 have u0:=ZM (x0/4) (b:=U) (by omega)
 have u1:=ZH (x0/4) hU.1
 have hx:x0/4%U<10^40:=Int.lt_of_lt_of_le u1 hU.2
 have E:∀{σ:ISt}{hh:IH},Jb (eC (.int 4)) (Jb (Jc JE (eC (.int 10)) (eC (.int 15))) (Jb (Jc JE (eC (.int 10)) (eC (.int 15))) (Jb (Jc JE (eC (.int 10)) (eC (.int 40))) Jd))) σ hh=.ok [IV.int 4,IV.int (10^15),IV.int (10^15),IV.int (10^40)] hh:=λ {σ hh}=>arg4 rfl (e15 σ hh) (e15 σ hh) (e40 σ hh)
 refine xfin (xseq (xset (Je (JY (arg2 rfl rfl) c0) (xseq (xset ?_)))))
 refine Je (addE rfl (modE (QB rfl rfl (by decide) (by decide)) (pkE E rfl (modE rfl rfl (by decide)) eU) hU.1)) ?_
 refine xseq (xset (Je (JY (arg2 rfl rfl) (c1 _)) (xseq (xset (Je (lstE rfl rfl) (xseq ?_))))))
 generalize hu:1+x0/4%U=unit
 have hu1:1<=unit:=by omega
 have hu2:unit<=10^40:=by
  clear eU
  generalize (10:Int)^40=y at hx
  omega
 have xA:Ex h (h++[IX.lst [IV.int 4,IV.int (10^15),IV.int (10^15),IV.int (10^40)]]++[IX.lst []]):=(Ex.one _ _).trans (.one _ _)
 have gA:(h++[IX.lst [IV.int 4,IV.int (10^15),IV.int (10^15),IV.int (10^40)]]++[IX.lst []])[(h++[IX.lst [IV.int 4,IV.int (10^15),IV.int (10^15),IV.int (10^40)]]).length]?=Za (.lst []):=Jk
 have loop:∀(hB:IH)(W:Nat)(ws:List Str),Ex h hB->hB[W]?=Za (.lst (ws.map .str))->(∀x∈ws,IsNm x)->ws.Nodup->(ws=[]∨ws.length=3)->(held=Zk->ws=[])->∀N:ISt->IH->Prop,
   WS (Jfu (k+3) [Za (.rol (ns.map .int)),Za (.bl held),Za (.int x0),Za (.int unit),Za (.int x1),Za (.ref W),Zc,Zc,Zc] hB) N (SQ h held):=by
  intro hB W ws xB gW hw nd lw hh N
  obtain⟨m,em⟩:∃m:Nat,x1%6=m:=⟨(x1%6).toNat,by omega⟩
  refine xseq (xset (Je (lstE rfl rfl) (xseq (xrng (n:=m) (okc (modE rfl rfl (by decide)) (congrArg IV.int em)) (by omega) ?_))))
  refine Qv (SmI h hB ns held x0 unit x1 W) (λ _ _ _ _=>trivial) ?_ ?_ ⟨[],[],[],Zc,Zc,rfl,rfl,⟨rfl,λ i y r a b=>by simp at a⟩,rfl,⟨hu1,hu2,by simp,rfl⟩,by simp⟩
  ·rintro n hn _ _ ⟨ys,rs,g,a,b,rfl,rfl,w,ln,D,hr⟩
   rw[V3]
   rw[Qj] at hn
   have hn6:n<6:=by omega
   rw[show(0+(n:Int))=(n:Int) by omega]
   have gW':(hB++IX.lst ys::g)[W]?=Za (.lst (ws.map .str)):=grow gW
   refine xnx rfl (xseq (xset (xb (Je (arg3 (addE (JY (arg2 rfl (addE rfl rfl)) (Jl4 (k:=k+2) ns (2+(n:Int)) (by omega))) (mulE rfl rfl (.inl (by decide)))) rfl rfl) (WR.mono (Jtz (k:=k+1) hu1 hu2 gW' hw nd lw) ?_)))))
   rintro _ h3 ⟨⟨g3,rfl⟩,r,q,f,rfl,hq,gq,hz⟩
   have e3:hB++IX.lst ys::g++g3=hB++IX.lst ys::(g++g3):=by simp
   refine Q7 (Va (i:=hB.length) rfl (by rw[e3];exact J4) VU (xb (xb (xtup (xb (xb (Je (arg2 (QB rfl rfl (by decide) (by decide)) rfl) (WR.mono (Jr5 (k:=k+2) (x1/7) n) ?_))))))))
   rintro _ _ ⟨rfl,g4,rfl⟩
   have e4:hB++IX.lst ys::g++g3++g4=hB++IX.lst ys::(g++g3++g4):=by simp
   have kB:KpB hB.length (hB++IX.lst ys::g) (hB++IX.lst ys::(g++g3++g4)):=λ j o _ z=>by rw[<- e4];exact grow (grow z)
   have w4:=w.kpb kB
   have gq4:(hB++IX.lst ys::(g++g3++g4))[q]?=Za (.lst (r.2.map tupH)):=by rw[<- e4];exact grow gq
   have hq':q≠hB.length:=by rw[Zx,ZC] at hq;omega
   have ly:ys.length<=6:=by have:=w.len;omega
   rw[e4]
   have ea:Jl (.tup [.str (wd (x1/7) n)]) (.tup (tp5 r q)) (hB++IX.lst ys::(g++g3++g4))=.ok (tp6 ⟨{ r.1 with name:=wd (x1/7) n },r.2⟩ q) (hB++IX.lst ys::(g++g3++g4)):=by
    simp only[Jl]
    rw[if_pos ⟨by simp,by simp,by simp;omega⟩]
    rfl
   refine xb (Je rfl (Je rfl ⟨by show(1:Nat)<=_;omega,xb (Je rfl (Je ea (xb (Je rfl (Je rfl (xapp J4 (by omega) ?_))))))⟩))
   rw[XG]
   refine⟨ys++[tp6 ⟨{ r.1 with name:=wd (x1/7) n },r.2⟩ q],rs++[⟨{ r.1 with name:=wd (x1/7) n },r.2⟩],g++g3++g4,_,_,rfl,rfl,?_,by simp[ln],⟨hu1,hu2,?_,?_⟩,?_⟩
   ·have kC:KpB hB.length (hB++IX.lst ys::(g++g3++g4)) (hB++IX.lst (ys++[tp6 ⟨{ r.1 with name:=wd (x1/7) n },r.2⟩ q])::(g++g3++g4)):=λ j o hj z=>by
     rw[<- XG (IX.lst ys),ZG (ZI hj)]
     exact z
    exact(w4.kpb kC).snoc hq' (kC _ _ hq' gq4)
   ·intro s hs
    rw[ZL,Zv] at hs
    rcases hs with hs|rfl
    ·exact D.f s hs
    ·exact⟨f.g1,f.g2,f.l1,f.l2,f.d1,f.d2,f.t1,f.t2,f.ok⟩
   ·rw[Zbi,D.nm,Zx,ZaA,List.range_succ,Zbi,ln]
    rfl
   ·intro z s hs
    rw[ZL,Zv] at hs
    rcases hs with hs|rfl
    ·exact hr z s hs
    ·exact hz (hh z)
  ·rintro _ _ ⟨ys,rs,g,a,b,rfl,rfl,w,ln,D,hr⟩
   rw[Qj] at ln
   have:=xB.len
   exact xret (Je rfl ⟨xB.trans (.cons _ _ _),_,_,ys,rs,x1/7,unit,rfl,this,J4,w,D,by omega,hr⟩)
 cases held with
 | false=>exact xiff (truE rfl) (xnil (loop _ _ [] xA gA (by simp) (by simp) (.inl rfl) (λ _=>rfl) _))
 | true =>
  refine xift (truE rfl) (xset (WR.mono (Ql (h:=h++[IX.lst [IV.int 4,IV.int (10^15),IV.int (10^15),IV.int (10^40)]]++[IX.lst []]) (xs:=rngI 0 3) (chk:=λ _=>True) (f:=wOf (x1/5)) ?_ (by rw[Qj];omega) (λ _ _=>trivial) ?_) ?_))
  ·rw[V5]
   refine Je (arg1 rfl) ?_
   rw[Xk]
   exact⟨by omega,rfl,rfl,rfl⟩
  ·intro x hx h2 q
   obtain⟨n,hn,rfl⟩:=Zam.mp hx
   rw[V3,show(0+(n:Int))=(n:Int) by omega]
   unfold Jdj
   refine xb (Je (arg2 (QB rfl rfl (by decide) (by decide)) rfl) (WR.mono (Jr5 (k:=k+2) (x1/5) n) ?_))
   rintro _ h3 ⟨rfl,x3⟩
   exact⟨by simp[wOf],x3⟩
  ·rintro _ _ ⟨rfl,g,rfl⟩
   have em:(rngI 0 3).map (wOf (x1/5))=((ZT 3).map (wd (x1/5))).map IV.str:=by
    refine Zcn (by rw[Zj,Qj,Zj,Zj,Zb9];rfl) λ i h1 h2=>?_
    rw[Zag,V3,Zag,Zag,Zdq]
    simp[wOf]
   rw[em]
   refine loop _ _ ((ZT 3).map (wd (x1/5))) (xA.trans (.cons _ _ _)) J4 (λ x hx=>?_) ?_ (.inr (by simp)) (λ z=>by cases z) _
   ·obtain⟨j,_,rfl⟩:=Z3.mp hx
    exact Jr3 _ j
   ·rw[List.Nodup,Zdv]
    refine(ZdG (n:=3)).imp_of_mem λ {a b} ha hb hne e=>hne ?_
    exact Jwb (by have:=Za3.mp ha;omega) (by have:=Za3.mp hb;omega) e
end
end
section
variable {k:Nat}{h h1:IH}{σ:ISt}
theorem Jyn:WR (Xt σ h) Q=Q (.ref h.length) (h++[.dct []]):=rfl
theorem Jyo (e:o σ h=.ok (.ref i) h1)(hl:h1[i]?=Za (.dct kvs))(hg:bmOf "dict" m n=Za g):WR (Jo P m n o a σ h) Q=WR (a σ h1) λ vs h2=>WR (g (.ref i) vs h2) Q:=by
 unfold Jo
 rw[e]
 have hi:VH (.ref i) h1=Zk:=by simp[VH,hl]
 have ht:tyS (.ref i) h1="dict":=by simp[tyS,hl]
 dsimp only
 rw[hi,ht,hg]
 dsimp only
 rw[if_neg Zt]
 unfold eBm
 rw[e,Jr,V6]
 have:tyOk "dict" (.ref i) h1=Zh:=by simp[tyOk,hl]
 rw[if_pos this,Jr]
theorem Jpw:bmOf "dict" "setdefault" 2=Za VM:=by kernel_rfl
theorem Ju3 (hi:h[i]?=Za (.dct kvs))(e:valI kvs (.inr x)=Za w):WR (VM (.ref i) [.str x,v] h) Q=Q w h:=by
 unfold VM
 simp only[hi,keyI,e]
 rfl
theorem Ju2 (hi:h[i]?=Za (.dct kvs))(e:valI kvs (.inr x)=Zc)(hl:kvs.length<sizeLine):WR (VM (.ref i) [.str x,v] h) Q=Q v (h.set i (.dct (kvs++[(.inr x,v)]))):=by
 unfold VM
 simp only[hi,keyI,e,hl,if_true]
 rfl
end
theorem Jr2 (kvs:List (Key×IV))(k k':Key)(v:IV):valI (kvs++[(k,v)]) k'=match valI kvs k' with
  | some w=>Za w
  | none=>if k=k' then Za v else Zc:=by
 induction kvs with
 | nil =>
  by_cases e:k=k'
  ·rw[Zaw,QM e,if_pos e];rfl
  ·rw[Zaw,Q6 e,if_neg e];rfl
 | cons p r ih =>
  by_cases e:p.1=k'
  ·rw[Zan,QM e,QM e]
  ·rw[Zan,Q6 e,Q6 e,ih]
def has (x:Str)(hs:List Hd):Bool:=hs.any λ a=>decide (a.1=x)
def fstK (hss:List (List Hd))(x:Str):Option Nat:=hss.findIdx? (has x)
def fV (o:Option Nat):IV:=match o with
 | some i=>.int (i:Int)
 | none=>.non
theorem Jqg (hss:List (List Hd))(hs:List Hd)(x:Str):fstK (hss++[hs]) x=match fstK hss x with
  | some i=>Za i
  | none=>if has x hs=Zh then Za hss.length else Zc:=by
 unfold fstK
 rw[List.findIdx?_append]
 cases hss.findIdx? (has x) with
 | some i=>rfl
 | none =>
  by_cases e:has x hs=Zh
  ·simp[Zdp,e]
  ·simp[Zdp,e]
theorem Jm7 (x:Str)(hs:List Hd)(a:Hd):has x (hs++[a])=(has x hs||decide (a.1=x)):=by simp[has]
section
variable {k:Nat}{h:IH}
theorem dls:(([("works",a)]:List (Str×IV))).lookup ("size":Str)=Zc:=by kernel_rfl
theorem Jg5 (hD:h[D]?=Za (.ins "Duty" (dfs vs))):Jdm (k+1) [.ref D] h=.ok (.int vs.length) h:=by
 refine Ju ?_
 rw[Jks]
 simp! [Jd8,Qc hD,dl0]
def Told (kvs:List (Key×IV))(hss:List (List Hd))(n:Nat)(hs:List Hd):Prop:=∀x,valI kvs (.inr x)=match fstK hss x with
 | some i=>Za (.int (i:Int))
 | none=>if has x hs=Zh then Za (.int (n:Int)) else Zc
theorem Told.next (t:Told kvs hss n hs)(hn:hss.length=n):Told kvs (hss++[hs]) (n+1) []:=λ x=>by
 subst hn
 rw[t x,Jqg]
 cases fstK hss x with
 | some i=>rfl
 | none =>
  by_cases e:has x hs=Zh
  ·simp only[e,if_true]
  ·simp only[e];rfl
theorem Told.old {a:Hd}(t:Told kvs hss n hs)(e:valI kvs (.inr a.1)=Za w):Told kvs hss n (hs++[a]):=λ x=>by
 rw[t x]
 cases ef:fstK hss x with
 | some i=>rfl
 | none =>
  dsimp only
  rw[Jm7]
  by_cases ea:a.1=x
  ·have:=t x
   rw[<- ea,e,ea,ef] at this
   dsimp only at this
   by_cases q:has x hs=Zh
   ·simp[q]
   ·rw[if_neg q] at this
    cases this
  ·simp[ea]
theorem Told.new {a:Hd}(t:Told kvs hss n hs)(e:valI kvs (.inr a.1)=Zc):Told (kvs++[(.inr a.1,.int (n:Int))]) hss n (hs++[a]):=λ x=>by
 rw[Jr2,t x]
 cases ef:fstK hss x with
 | some i=>rfl
 | none =>
  dsimp only
  rw[Jm7]
  by_cases q:has x hs=Zh
  ·simp[q]
  ·by_cases ea:a.1=x
   ·simp[q,ea]
   ·have:¬((.inr a.1:Key)=.inr x):=λ z=>ea (Sum.inr.inj z)
    simp[q,ea]
theorem Jg2 {vs:List IV}{rs:List RH}{D:Nat}(hD:h[D]?=Za (.ins "Duty" (dfs vs)))(w:AllH h vs rs)(hl:rs.length<=12)(h6:∀r∈rs,r.2.length<=6) :
  WR (Jc1 (k+2) [.ref D] h) λ v h'=>∃i kvs,v=.ref i/\h'[i]?=Za (.dct kvs)/\(∀x,(valI kvs (.inr x)).getD .non=fV (fstK (rs.map (·.2)) x))/\Ex h h':=by
 have hb:=J2
 have wl:=w.len
 rw[Jl8]
 simp! [Jfp,Jfq,Jyn]
 rw[VQ (i:=D) (h1:=h++[.dct []]) rfl (grow hD) dls (Jcz _)]
 simp! [Jg5 (grow hD)]
 refine⟨by omega,?_⟩
 refine Qv (λ n σ h'=>∃kvs g a b,h'=h++IX.dct kvs::g/\σ=[Za (.ref D),Za (.ref h.length),a,b]/\kvs.length<=6*n/\Told kvs ((rs.map (·.2)).take n) n []) (λ _ _ _ _=>trivial) ?_ ?_ ⟨[],[],Zc,Zc,rfl,rfl,by simp,λ x=>by simp[valI,fstK,has]⟩
 ·rintro n hn _ _ ⟨kvs,g,a,b,rfl,rfl,ln,td⟩
  rw[V3]
  rw[Qj] at hn
  have hn':n<rs.length:=by omega
  have en:(0:Int)+(n:Int)=n:=by omega
  obtain⟨j,ej,gj⟩:=w.at_ n _ _ (Zb (by omega)) (Zb hn')
  have av:atI vs (n:Int)=Za (.ref j):=JI (by rw[Zb (by omega),ej])
  have hl6:=h6 _ (Z5 hn')
  have hm:n<(rs.map (·.2)).length:=by rw[Zj];exact hn'
  have tk:(rs.map (·.2)).take (n+1)=(rs.map (·.2)).take n++[(rs[n]).2]:=by rw[ZaC hm,Zag]
  rw[tk]
  generalize rs[n]=r at gj hl6
  simp! [en,Je6]
  have x1:Ex h (h++IX.dct kvs::g):=.cons _ _ _
  have ed:Jo (pg (k+1)) "work" 1 (Ja 0) (Jb (Ja 2) Jd) [Za (IV.ref D),Za (IV.ref h.length),Za (IV.int (n:Int)),b] (h++IX.dct kvs::g)=.ok (.ref j) (h++IX.dct kvs::g):=by
   refine Ju ?_
   rw[VQ (i:=D) (h1:=h++IX.dct kvs::g) rfl (x1.get hD) dlw (Jc0 _)]
   simp! [Jg6 (x1.get hD) av]
  rw[VQ (i:=j) (h1:=h++IX.dct kvs::g) ed (x1.get gj) flh (Jbg _)]
  simp! [Jfb (x1.get gj),JN,Jk]
  generalize r.2=hs at hl6
  refine Qv (λ m σ h'=>∃kvs' b',h'=h++IX.dct kvs'::(g++[IX.lst (hs.map tupH)])/\σ=[Za (.ref D),Za (.ref h.length),Za (.int (n:Int)),b']/\kvs'.length<=6*n+m/\Told kvs' ((rs.map (·.2)).take n) n (hs.take m)) ?_ ?_ ?_ ⟨kvs,b,by rw[Zad,Zan],rfl,by omega,td⟩
  ·rintro _ _ _ ⟨kvs',b',rfl,_⟩
   rw[show h++IX.dct kvs'::(g++[IX.lst (hs.map tupH)])=(h++IX.dct kvs'::g)++[IX.lst (hs.map tupH)] by rw[Zad,Zan],
    show(h++IX.dct kvs::g).length=(h++IX.dct kvs'::g).length by simp]
   exact Jk
  ·rintro m hm _ _ ⟨kvs',b',rfl,rfl,lm,tm⟩
   have hm':m<hs.length:=by simpa using hm
   rw[Zag,ZaC hm']
   generalize hs[m]=a at *
   simp! [Je5]
   rw[Jyo (i:=h.length) (h1:=h++IX.dct kvs'::(g++[IX.lst (hs.map tupH)])) rfl J4 Jpw]
   simp! [tupH]
   cases ev:valI kvs' (.inr a.1) with
   | some w' =>
    rw[Ju3 J4 ev]
    exact⟨kvs',_,rfl,rfl,by omega,tm.old ev⟩
   | none =>
    rw[Ju2 J4 ev (by omega),XG]
    exact⟨_,_,rfl,rfl,by rw[Zx,ZaA];omega,tm.new ev⟩
  ·rintro _ _ ⟨kvs',b',rfl,rfl,lm,tm⟩
   rw[Zj] at lm tm
   rw[Zbb (Zq _)] at tm
   have ltn:((rs.map (·.2)).take n).length=n:=by rw[ZaV];omega
   exact⟨kvs',_,_,_,rfl,rfl,by omega,tm.next ltn⟩
 ·rintro _ _ ⟨kvs,g,a,b,rfl,rfl,ln,td⟩
  simp! [Jfr]
  refine⟨_,kvs,rfl,J4,λ x=>?_,.cons _ _ _⟩
  have:=td x
  rw[Qj,Zbb (by rw[Zj];omega)] at this
  rw[this]
  cases fstK (rs.map (·.2)) x with
  | some i=>rfl
  | none=>simp[has,fV]
theorem Jjy (kvs:List (Key×IV))(k k':Key)(v:IV):valI (putD kvs k v) k'=if k=k' then Za v else valI kvs k':=by
 unfold putD
 have any_iff:∀l:List (Key×IV),(l.any λ kv=>decide (kv.1=k))=(valI l k).isSome:=by
  intro l
  induction l with
  | nil=>rfl
  | cons p r ih =>
   rw[ZbB,ih]
   by_cases e:p.1=k
   ·rw[QM e];simp[e]
   ·rw[Q6 e];simp[e]
 split
 ·rename_i ha
  have key:∀l:List (Key×IV),valI (l.map λ kv=>if kv.1=k then(kv.1,v) else kv) k'=if k=k' then(if (valI l k).isSome then Za v else Zc) else valI l k':=by
   intro l
   induction l with
   | nil=>by_cases e:k=k'<;>simp[valI]
   | cons p r ih =>
    rw[Z6]
    by_cases e:p.1=k
    ·rw[if_pos e]
     by_cases e2:k=k'
     ·rw[QM (by rw[<- e2];exact e),if_pos e2,QM e];rfl
     ·rw[Q6 (by rw[e];exact e2),ih,if_neg e2,if_neg e2,Q6 (by rw[e];exact e2)]
    ·rw[if_neg e]
     by_cases e2:p.1=k'
     ·have:¬k=k':=λ z=>e (e2.trans z.symm)
      rw[QM e2,if_neg this,QM e2]
     ·rw[Q6 e2,ih,Q6 e,Q6 e2]
  rw[key,<-any_iff,ha]
  simp
 ·rename_i ha
  have hn:valI kvs k=Zc:=by
   have:=any_iff kvs
   cases q:valI kvs k with
   | none=>rfl
   | some z=>rw[q] at this;exact absurd this ha
  have key:∀l:List (Key×IV),valI (l++[(k,v)]) k'=match valI l k' with
    | some w=>Za w
    | none=>if k=k' then Za v else Zc:=by
   intro l
   induction l with
   | nil =>
    by_cases e:k=k'
    ·rw[Zaw,QM e,if_pos e];rfl
    ·rw[Zaw,Q6 e,if_neg e];rfl
   | cons p r ih =>
    by_cases e:p.1=k'
    ·rw[Zan,QM e,QM e]
    ·rw[Zan,Q6 e,Q6 e,ih]
  rw[key]
  by_cases e:k=k'
  ·subst e;rw[hn,if_pos rfl]
  ·rw[if_neg e,if_neg e];cases valI kvs k'<;>rfl
theorem Jsa (hi:h[i]?=Za (.dct kvs)):WR (cInD (.int x) (.ref i) h) Q=Q (.bl (valI kvs (.inl x)).isSome) h:=by
 unfold cInD
 simp only[hi,keyI]
 rfl
theorem Jwc (hi:h[i]?=Za (.dct kvs))(e:valI kvs (.inl x)=Za v):WR (QF (.ref i) (.int x) h) Q=Q v h:=by
 unfold QF
 simp only[hi,keyI,e]
 rfl
theorem Jsi (o i:E1)(v:IV):WS (gSbD o i v σ h) N R=WR (o σ h) λ ov h1=>WR (i σ h1) λ iv h2=>WS (Yz ov iv v σ h2) N R:=by
 unfold gSbD
 rw[Qu]
 congr 1
 funext ov h1
 rw[Qu]
theorem Job (hi:h[i]?=Za (.dct kvs))(hl:kvs.length<sizeLine):WS (Yz (.ref i) (.int x) v σ h) N R=N σ (h.set i (.dct (putD kvs (.inl x) v))):=by
 unfold Yz
 simp only[hi,keyI,hl,if_true]
 rfl
end
section
seal L4.run
theorem Jsl {α:Type}{x y z u v w:α}{xs:List α}:atI (x::y::z::u::v::w::xs) 5=Za w:=JI (n:=5) rfl
def dH (a:Hd):Zdm:=.tuple [.str a.1,.int a.2.1,.int a.2.2]
def dR (r:RH):Zdm:=.tuple [.str r.1.name,.int r.1.gap,.int r.1.len,.int r.1.due,.int r.1.late,.list (r.2.map dH)]
theorem Jq0 {x:Str}(q:IsNm x):Za0 (.str x)=Zh:=by
 simp only[Za0]
 unfold Ze6
 rw[<- ZdF,ZaW]
 intro c hc
 have:=q.2.2 c hc
 simp only[decide_eq_true_eq]
 omega
theorem Jz4 {hs:List Hd}(q:∀a∈hs,IsNm a.1):ZX (hs.map dH)=Zh:=by
 induction hs with
 | nil=>rfl
 | cons a hs ih =>
  have e:Za0 (dH a)=Zh:=by
   have:=Jq0 (q a (Z4 ..))
   simp only[dH,Za0,ZX] at this ⊢
   rw[this]
   rfl
  rw[Z6,ZX,e,ih λ b hb=>q b (Zn _ hb)]
  rfl
theorem Jz5 {rs:List RH}(q:∀r∈rs,IsNm r.1.name/\∀a∈r.2,IsNm a.1):ZX (rs.map dR)=Zh:=by
 induction rs with
 | nil=>rfl
 | cons r rs ih =>
  have e:Za0 (dR r)=Zh:=by
   have h1:=Jq0 (q r (Z4 ..)).1
   have h2:=Jz4 (q r (Z4 ..)).2
   simp only[dR,Za0,ZX] at h1 ⊢
   rw[h1,h2]
   rfl
  rw[Z6,ZX,e,ih λ b hb=>q b (Zn _ hb)]
  rfl
theorem d_hs' {h:IH}{q n:Nat}{hs:List Hd}(e:h[q]?=Za (.lst (hs.map tupH))):toD h (n+3) (.ref q)=Za (.list (hs.map dH)):=by
 have:∀hs:List Hd,(hs.map tupH).mapM (toD h (n+2))=Za (hs.map dH):=by
  intro hs
  induction hs with
  | nil=>rfl
  | cons a r ih=>rw[Z6,Zcf,ih];rfl
 rw[XM e,this]
 rfl
theorem J10 {h:IH}{lo:Nat}{ys:List IV}{rs:List RH}(w:RowT h lo ys rs):ys.mapM (toD h 5)=Za (rs.map dR):=by
 obtain⟨wl,at_⟩:=w
 induction ys generalizing rs with
 | nil=>cases rs with|nil=>rfl|cons _ _=>simp at wl
 | cons y ys ih =>
  cases rs with
  | nil=>simp at wl
  | cons r rs =>
   obtain⟨q,e,_,g⟩:=at_ 0 y r rfl rfl
   have ed:toD h 5 y=Za (dR r):=by
    rw[e]
    show((IV.str r.1.name::tp5 r q).mapM (toD h 4)).map Ze4=Za (dR r)
    simp only[Zcf,List.mapM_nil,d_hs' (n:=1) g]
    rfl
   rw[Zcf,ed,ih (rs:=rs) (by simpa using wl) λ i y' r' a b=>at_ (i+1) y' r' a b]
   rfl
structure Cm where
 at_:Nat
 come:Int
 late:Int
 len:Int
abbrev tupC (c:Cm):IV:=.tup [.int c.at_,.int c.come,.int c.late,.int c.len]
structure COk (rs:List RH)(c:Cm):Prop where
 at_:c.at_<rs.length
 come:0<=c.come
 l0:0<=c.late
 l1:c.late<=(rs[c.at_]).1.late
 n1:1<=c.len
 n2:c.len<=(rs[c.at_]).1.len
structure Legal (rs:List RH)(cs:List Cm):Prop where
 ok:∀c∈cs,COk rs c
 far:∀(i j:Nat)(a b:Cm),i<j->cs[i]?=Za a->cs[j]?=Za b->a.at_=b.at_->∀r,rs[a.at_]?=Za r->a.come+r.1.gap<=b.come
structure Lst (kvs:List (Key×IV))(cs:List Cm):Prop where
 no:∀n:Nat,valI kvs (.inl (n:Int))=Zc->∀c∈cs,c.at_≠n
 yes:∀(n:Nat) v,valI kvs (.inl (n:Int))=Za v->∃x,v=.int x/\0<=x/\∀c∈cs,c.at_=n->c.come<=x
def gOf (v:IV):IV:=match v with
 | .tup (_::g::_)=>g
 | _=>.non
theorem RowT.mapG {h:IH}{lo:Nat}{ys:List IV}{rs:List RH}(w:RowT h lo ys rs){F:IV->IV}{g:RH->IV}(hf:∀r q,F (tp6 r q)=g r):ys.map F=rs.map g:=by
 have wl:=w.len
 refine Zcn (by simp[wl]) λ i h1 h2=>?_
 rw[Zj] at h1 h2
 rw[Zag,Zag]
 obtain⟨q,e,_,_⟩:=w.at_ i _ _ (Zb h1) (Zb h2)
 rw[e]
 exact hf _ q
structure RI (h h':IH)(cs:List Cm)(kvs:List (Key×IV)):Prop where
 r:h'[h.length]?=Za (.lst (cs.map tupC))
 d:h'[h.length+1]?=Za (.dct kvs)
 kp:Kp h h'
theorem RI.ex {h h1 h2:IH}{cs:List Cm}{kvs:List (Key×IV)}(R:RI h h1 cs kvs)(x:Ex h1 h2):RI h h2 cs kvs:=⟨x.get R.r,x.get R.d,R.kp.trans x.kp⟩
theorem RI.ex0 {h h1:IH}{cs:List Cm}{kvs:List (Key×IV)}(R:RI h h1 cs kvs):Ex h h1:=Jsv R.kp
section
variable {k:Nat}{h:IH}
theorem Jmm {S j lo:Nat}{ys:List IV}{rs:List RH}(hS:h[S]?=Za (.lst ys))(w:RowT h lo ys rs)(q:∀r∈rs,IsNm r.1.name/\∀a∈r.2,IsNm a.1)(hj:h[j]?=Za (.lst [])):cEq (.ref S) (.ref j) h=.ok (.bl rs.isEmpty) h:=by
 have e1:toD h 6 (.ref S)=Za (.list (rs.map dR)):=by rw[XM hS,J10 w];rfl
 have e2:toD h 6 (.ref j)=Za (.list []):=by rw[XM hj];rfl
 have e3:Vg (.ref S) (.ref j) h=Za rs.isEmpty:=by
  unfold Vg
  rw[e1,e2]
  dsimp only
  rw[if_pos ⟨by rw[Za0];exact Jz5 q,by rw[Za0,ZX]⟩,ZcM]
  cases rs with
  | nil=>rw[Zba,Zd1];rfl
  | cons a as=>rw[Z6,Zd1];rfl;all_goals intros;simp_all
 unfold cEq
 have e4:Xe (.ref S) (.ref j)=Zc:=rfl
 rw[e4]
 dsimp only
 rw[e3]
theorem Jsf {i:Nat}{ms:List Int}{Q:IV->IH->Prop}(hi:h[i]?=Za (.lst (ms.map .int)))(hm:ms≠[]):WR (VZ (.ref i) h) Q=Q (.int (JJ (λ i=>ms.getD i 0) ms.length)) h:=by
 unfold VZ
 simp only[hi,Vx,hm,if_false]
 rfl
def RwI (h:IH)(C S:Nat)(T:Int)(rs:List RH)(n:Nat)(σ:ISt)(h':IH):Prop:=∃cs kvs a5 a6 a7 a8 a9 a10 a11 a12 a13 a14 a15,RI h h' cs kvs/\σ=[Za (.ref C),Za (.ref S),Za (.ref h.length),Za (.ref (h.length+1)),Za (.int (3*T)),a5,a6,a7,a8,a9,a10,a11,a12,a13,a14,a15]/\cs.length=n/\kvs.length<=n/\Legal rs cs/\Lst kvs cs
theorem Jt1 {k:Nat}{h h1:IH}{S C n:Nat}{ys:List IV}{rs:List RH}{c unit T y:Int}{cs:List Cm}{kvs:List (Key×IV)}{a5 a6 a7 a8 a9 a10 a11 a12 a13 a14 a15:Option IV}{P:IV->IH->Prop}(hS:h[S]?=Za (.lst ys)){lo:Nat}(w:RowT h lo ys rs)(D:Dr c unit rs)(pos:0<rs.length)(hn:n<=64)(top:∀r∈rs,r.1.gap<=T)
  (R:RI h h1 cs kvs)(lc:cs.length=n)(lk:kvs.length<=n)(L:Legal rs cs)(Z:Lst kvs cs) :
  WS (Jfx (k+1) [Za (.ref C),Za (.ref S),Za (.ref h.length),Za (.ref (h.length+1)),Za (.int (3*T)),Za (.int y),a6,a7,a8,a9,a10,a11,a12,a13,a14,a15] h1) (RwI h C S T rs (n+1)) P:=by
 have hb:=J2
 have wl:=w.len
 have sl:=JB hS
 refine xseq (xset (xb (Je (arg2 rfl rfl) (WR.mono (Jlu (k:=k) y 6 (by decide)) ?_))))
 rintro _ h2 ⟨X,xs,rfl,_,gX,lx,hx,e2⟩
 have R:=R.ex e2
 match xs,lx,gX,hx with
 | [y0,y1,y2,y3,y4,y5],_,gX,hx =>
 clear hx
 have gX:h2[X]?=Za (.lst [.int y0,.int y1,.int y2,.int y3,.int y4,.int y5]):=gX
 have pl':(0:Int)<(ys.length:Int):=by omega
 obtain⟨m,em⟩:∃m:Nat,y0%(ys.length:Int)=m:=⟨(y0%(ys.length:Int)).toNat,by have:=ZM y0 (b:=(ys.length:Int)) (by omega);omega⟩
 have hm':m<rs.length:=by have:=ZH y0 pl';omega
 have er:=Zb hm'
 have f:=D.f _ (Z5 hm')
 have tg:=top _ (Z5 hm')
 generalize hrr:rs[m]=r at er f tg
 obtain⟨q,ey,_⟩:=w.get er
 have ay:atI ys (m:Int)=Za (tp6 r q):=JI ey
 have gS2:=R.kp _ _ hS
 have f1:=f.g1
 have f2:=f.l1
 have f3:=f.t1
 have f4:=f.t2
 have u1:=D.u1
 have g0:0<r.1.gap:=by omega
 have v1:=ZM y1 (b:=r.1.late+1) (by omega)
 have v2:=ZH y1 (b:=r.1.late+1) (by omega)
 have v3:=ZM y3 (b:=r.1.gap) (by omega)
 have v4:=ZH y3 g0
 have v5:=ZM y3 (b:=1+r.1.gap) (by omega)
 have v6:=ZM y5 (b:=r.1.len) (by omega)
 have v7:=ZH y5 (b:=r.1.len) (by omega)
 obtain⟨wt,wt1,ew⟩:=pk (n:=3) (y:=y2) [r.1.late,0,y1%(r.1.late+1)] rfl (by decide)
 obtain⟨sh,sh1,es⟩:=pk (n:=3) (y:=y4) [0,y3%r.1.gap,0-y3%r.1.gap] rfl (by decide)
 obtain⟨mo,mo1,eo⟩:=pk (n:=2) (y:=y4) [0,y3%(1+r.1.gap)] rfl (by decide)
 obtain⟨ll,ll1,el⟩:=pk (n:=3) (y:=y4/6) [r.1.len,r.1.len,1+y5%r.1.len] rfl (by decide)
 simp only[Z7,ZS,or_false] at wt1 sh1 mo1 ll1
 have wt1:0<=wt/\wt<=r.1.late:=by omega
 have sh1:0-r.1.gap<sh/\sh<r.1.gap:=by omega
 have mo1:0<=mo:=by omega
 have ll1:1<=ll/\ll<=r.1.len:=by omega
 clear v1 v2 v3 v4 v5 v6 v7
 refine xseq (xset (Je (okc (modE (ixlE rfl rfl gX JP) (lenE rfl gS2) pl') (congrArg IV.int em)) (xseq ((Xl ..).mpr (Je (ixlE rfl rfl gS2 ay) (xnx rfl (xseq (xset (Je (pkE (arg3 rfl rfl (modE (ixlE rfl rfl gX JX) (addE rfl rfl) (by omega))) rfl (modE (ixlE rfl rfl (grow gX) Qm) rfl (by decide)) ew) ?_)))))))))
 refine xseq (xset (Je (addE (subE rfl rfl) (pkE (arg3 rfl (modE (ixlE rfl rfl (grow gX) Qy) rfl g0) (subE rfl (modE (ixlE rfl rfl (grow gX) Qy) rfl g0))) rfl (modE (ixlE rfl rfl (grow (grow gX)) Vf) rfl (by decide)) es)) ?_))
 have x5:Ex h2 (h2++[IX.lst [IV.int r.1.late,IV.int 0,IV.int (y1%(r.1.late+1))]]++[IX.lst [IV.int 0,IV.int (y3%r.1.gap),IV.int (0-y3%r.1.gap)]]):=(Ex.one _ _).trans (.one _ _)
 generalize h2++[IX.lst [IV.int r.1.late,IV.int 0,IV.int (y1%(r.1.late+1))]]++[IX.lst [IV.int 0,IV.int (y3%r.1.gap),IV.int (0-y3%r.1.gap)]]=h5 at x5 ⊢
 have R5:=R.ex x5
 have gX5:=x5.get gX
 have last:∀(h3:IH)(come:Int),Ex h2 h3->0<=come->(∀c∈cs,c.at_=m->c.come+r.1.gap<=come) ->
   WS (Jg (sAsg (Ja 15) (gSbD (Ja 3) (Ja 7))) (JL (Jo (pg (k+1)) "append" 1 (Ja 2) (Jb (JA (Jb (Ja 7) (Jb (Ja 15) (Jb (Ja 14) (Jb (Jc Jf (J0 (Jb (Ja 10) (Jb (Ja 10) (Jb (Jc Jl (eC (.int 1)) (Jc Jv (Jc Jf (Ja 6) (eC (.int 5))) (Ja 10))) Jd)))) (Jc Jv (Jc JO (Jc Jf (Ja 6) (eC (.int 4))) (eC (.int 6))) (eC (.int 3)))) Jd))))) Jd)))
    [Za (.ref C),Za (.ref S),Za (.ref h.length),Za (.ref (h.length+1)),Za (.int (3*T)),Za (.int y),Za (.ref X),Za (.int (m:Int)),Za (.str r.1.name),Za (.int r.1.gap),Za (.int r.1.len),Za (.int r.1.due),Za (.int r.1.late),Za (.ref q),Za (.int wt),Za (.int come)] h3)
    (RwI h C S T rs (n+1)) P:=by
   intro h3 come x3 c0 cf
   have R3:=R.ex x3
   have ld:h.length+1<h3.length:=JB R3.d
   refine xseq ((Xl ..).mpr (Je rfl ?_))
   rw[Jsi]
   refine Je rfl (Je rfl ?_)
   rw[Job R3.d (show kvs.length<sizeLine by omega)]
   generalize hh4:h3.set (h.length+1) (.dct (putD kvs (.inl (m:Int)) (.int come)))=h4
   have kd:KpB (h.length+1) h3 h4:=λ j o hj z=>by rw[<- hh4,ZG (ZI hj)];exact z
   have gd4:h4[h.length+1]?=Za (.dct (putD kvs (.inl (m:Int)) (.int come))):=by rw[<- hh4,ZK ld]
   have gr4:=kd _ _ (by omega) R3.r
   have gX4:h4[X]?=Za (.lst [.int y0,.int y1,.int y2,.int y3,.int y4,.int y5]):=by
    refine kd _ _ (λ z=>?_) (x3.get gX)
    have:=x3.get gX
    rw[z,R3.d] at this
    cases this
   refine Q7 (Va rfl gr4 VU (Je (arg1 (tupE (arg4 rfl rfl rfl (pkE (arg3 rfl rfl (addE rfl (modE (ixlE rfl rfl gX4 Jsl) rfl (by omega)))) rfl (modE (QB (ixlE rfl rfl (grow gX4) Vf) rfl (by decide) (by decide)) rfl (by decide)) el)) rfl)) (xapp (grow gr4) (by rw[Zj];omega) ?_)))
   refine⟨cs++[⟨m,come,wt,ll⟩],putD kvs (.inl (m:Int)) (.int come),_,_,_,_,_,_,_,_,_,_,_,⟨?_,?_,?_⟩,rfl,by simp[lc],?_,⟨?_,?_⟩,⟨?_,?_⟩⟩
   ·rw[ZK (by rw[Zx];have:=JB gr4;omega)]
    simp
   ·rw[ZG (by omega)]
    exact grow gd4
   ·intro j o z
    have lj:=JB z
    rw[ZG (by omega)]
    exact grow (kd _ _ (by omega) (R3.kp _ _ z))
   ·unfold putD
    split
    ·simp;omega
    ·simp;omega
   ·intro c' hc'
    rw[ZL,Zv] at hc'
    rcases hc' with hc'|rfl
    ·exact L.ok c' hc'
    ·exact⟨hm',c0,wt1.1,by show wt<=(rs[m]).1.late;rw[hrr];exact wt1.2,ll1.1,by show ll<=(rs[m]).1.len;rw[hrr];exact ll1.2⟩
   ·intro i j a b hij ha hb' eab r' er'
    by_cases hj:j<cs.length
    ·rw[ZE hj] at hb'
     rw[ZE (by omega)] at ha
     exact L.far i j a b hij ha hb' eab r' er'
    ·have lj:=(Zo.mp hb').1
     rw[Zx,ZaA] at lj
     obtain rfl:j=cs.length:=by omega
     rw[ZA (Zq _),Zdd] at hb'
     cases hb'
     rw[ZE (by omega)] at ha
     have:r'=r:=by
      rw[eab] at er'
      have er':rs[m]?=Za r':=er'
      rw[er] at er'
      cases er'
      rfl
     rw[this]
     exact cf a (Zb5 ha) eab
   ·intro n' e c' hc'
    rw[Jjy] at e
    split at e
    ·cases e
    ·rename_i hne
     rw[ZL,Zv] at hc'
     rcases hc' with hc'|rfl
     ·exact Z.no n' e c' hc'
     ·exact λ z=>hne (by rw[show m=n' from z])
   ·intro n' v e
    rw[Jjy] at e
    split at e
    ·rename_i heq
     cases e
     have en:(m:Int)=n':=Sum.inl.inj heq
     have en:m=n':=by omega
     refine⟨come,rfl,c0,λ c' hc' ec=>?_⟩
     rw[ZL,Zv] at hc'
     rcases hc' with hc'|rfl
     ·have:=cf c' hc' (by rw[ec,en])
      omega
     ·exact Zay _
    ·rename_i hne
     obtain⟨x,e1,e2,e3⟩:=Z.yes n' v e
     refine⟨x,e1,e2,λ c' hc' ec=>?_⟩
     rw[ZL,Zv] at hc'
     rcases hc' with hc'|rfl
     ·exact e3 c' hc' ec
     ·exact absurd (by rw[show m=n' from ec]) hne
 cases ev:valI kvs (.inl (m:Int)) with
 | none =>
  have eI:cInD (.int (m:Int)) (.ref (h.length+1)) h5=.ok (.bl Zk) h5:=Ju (by rw[Jsa R5.d,ev];exact⟨rfl,rfl⟩)
  exact xseq (xiff (tofE ((binE rfl rfl).trans eI)) (xnil (last h5 (3*T-wt+sh) x5 (by omega) λ c' hc' z=>absurd z (Z.no m ev c' hc'))))
 | some v =>
  obtain⟨x,rfl,x0,xc⟩:=Z.yes m v ev
  have eI:cInD (.int (m:Int)) (.ref (h.length+1)) h5=.ok (.bl Zh) h5:=Ju (by rw[Jsa R5.d,ev];exact⟨rfl,rfl⟩)
  have eX:QF (.ref (h.length+1)) (.int (m:Int)) h5=.ok (.int x) h5:=Ju (by rw[Jwc R5.d ev];exact⟨rfl,rfl⟩)
  refine xseq (xift (tofE ((binE rfl rfl).trans eI)) (xset (Je (addE (addE ((binE rfl rfl).trans eX) rfl) (pkE (arg2 rfl (modE (ixlE rfl rfl gX5 Qy) (addE rfl rfl) (by omega))) rfl (modE (ixlE rfl rfl (grow gX5) Vf) rfl (by decide)) eo)) ?_)))
  exact last _ (x+r.1.gap+mo) (x5.trans (.one _ _)) (by omega) λ c' hc' z=>by have:=xc c' hc' z;omega
theorem J0w {S C lo:Nat}{cells:List Int}{ys:List IV}{rs:List RH}{c unit:Int}(hS:h[S]?=Za (.lst ys))(w:RowT h lo ys rs)(D:Dr c unit rs)(hr:rs.length<=7)(hC:h[C]?=Za (.lst (cells.map .int)))(hc:cells.length<=64) :
  WR (Jgn (k+2) [.ref C,.ref S] h) λ v h'=>∃R cs,v=.ref R/\h.length<=R/\h'[R]?=Za (.lst (cs.map tupC))/\Legal rs cs/\cs.length<=cells.length/\Ex h h':=by
 have hb:=J2
 have wl:=w.len
 have G:=D.gd hr
 have nmq:∀r∈rs,IsNm r.1.name/\∀a∈r.2,IsNm a.1:=λ r hr=>⟨(G.f r hr).nm,λ a ha=>((G.f r hr).ok.each a ha).1⟩
 have x1:Ex h (h++[IX.lst []]++[IX.dct []]++[IX.lst []]):=(Ex.one _ _).trans ((Ex.one _ _).trans (.one _ _))
 rw[Jom]
 refine xfin (xseq (xset (Je (lstE rfl rfl) (xseq (xset (Je rfl (xseq ?_)))))))
 have e0:=Jmm (x1.get hS) (w.kp x1.kp) nmq Jk
 cases rs with
 | nil=>exact xift (tofE ((binE rfl (lstE rfl rfl)).trans e0)) (xret (Je rfl ⟨_,[],rfl,Zq _,grow (grow Jk),⟨by simp,λ i j a b _ e=>by simp at e⟩,by simp,x1⟩))
 | cons r0 rs0 =>
 have pos:0<(r0::rs0).length:=by simp
 refine xiff (tofE ((binE rfl (lstE rfl rfl)).trans e0)) (xnil (xseq (xset ?_)))
 generalize r0::rs0=rs at *
 have gm:=w.mapG (F:=gOf) (g:=λ r=>IV.int r.1.gap) λ r q=>rfl
 have x1S:=x1.get hS
 refine xb (Je rfl (xb (xb (xb ?_))))
 refine WR.mono (Ql (h:=h++[IX.lst []]++[IX.dct []]++[IX.lst []]) (xs:=ys) (chk:=λ h'=>h'[S]?=Za (.lst ys)) (f:=gOf) ?_ (by omega) (λ h2 q=>q _ _ x1S) ?_) ?_
 ·rw[JW]
  exact Je rfl ((JN _).mpr ⟨_,x1S,rfl,rfl,rfl⟩)
 ·intro v hv h2 q
  obtain⟨n,hn,rfl⟩:=Zam.mp hv
  obtain⟨q,e,_,_⟩:=w.at_ n _ _ (Zb hn) (Zb (show n<rs.length by omega))
  rw[e]
  exact Je (ixtE rfl rfl JX) ⟨rfl,.refl _⟩
 rintro _ _ ⟨rfl,g,rfl⟩
 have em:rs.map (λ r=>IV.int r.1.gap)=(rs.map λ r=>r.1.gap).map IV.int:=by simp
 rw[gm,em]
 have hm:(rs.map λ r=>r.1.gap)≠[]:=λ e=>by
  rw[List.map_eq_nil_iff] at e
  rw[e] at pos
  simp at pos
 have x2:Ex (h++[IX.lst []]++[IX.dct []]++[IX.lst []]) (h++[IX.lst []]++[IX.dct []]++[IX.lst []]++IX.lst ((rs.map λ r=>r.1.gap).map IV.int)::g):=.cons _ _ _
 refine xb (Je rfl (Je rfl ?_))
 rw[Xj,Jsf J4 hm]
 have top:∀r∈rs,r.1.gap<=JJ (λ i=>(rs.map λ r=>r.1.gap).getD i 0) (rs.map λ r=>r.1.gap).length:=λ r hr=>by
  obtain⟨j,hj,rfl⟩:=Zam.mp hr
  have:=Jv0 (λ i=>(rs.map λ r=>r.1.gap).getD i 0) (rs.map λ r=>r.1.gap).length j (by simpa using hj)
  have e:(rs.map λ r=>r.1.gap).getD j 0=(rs[j]).1.gap:=by rw[Zl,Z1,Zb hj];rfl
  rw[<- e]
  exact this
 generalize JJ (λ i=>(rs.map λ r=>r.1.gap).getD i 0) (rs.map λ r=>r.1.gap).length=T at top
 have gR:(h++[IX.lst []]++[IX.dct []]++[IX.lst []]++IX.lst ((rs.map λ r=>r.1.gap).map IV.int)::g)[h.length]?=Za (.lst []):=x2.get (grow (grow Jk))
 have gD:(h++[IX.lst []]++[IX.dct []]++[IX.lst []]++IX.lst ((rs.map λ r=>r.1.gap).map IV.int)::g)[(h++[IX.lst []]).length]?=Za (.dct []):=x2.get (grow Jk)
 have lD:(h++[IX.lst []]).length=h.length+1:=by simp
 rw[lD] at gD ⊢
 have k2:Kp h (h++[IX.lst []]++[IX.dct []]++[IX.lst []]++IX.lst ((rs.map λ r=>r.1.gap).map IV.int)::g):=(x1.trans x2).kp
 generalize h++[IX.lst []]++[IX.dct []]++[IX.lst []]++IX.lst ((rs.map λ r=>r.1.gap).map IV.int)::g=hA at gR gD k2 ⊢
 refine xmul (.inl (by decide)) (xseq (xfor ?_))
 rw[JW]
 refine Je rfl ((JN _).mpr ⟨_,k2 _ _ hC,?_⟩)
 refine Qv (RwI h C S T rs)
  (λ n σ h' q=>by obtain⟨_,_,_,_,_,_,_,_,_,_,_,_,_,R,_⟩:=q;exact R.kp _ _ hC) ?_ ?_ ⟨[],[],Zc,Zc,Zc,Zc,Zc,Zc,Zc,Zc,Zc,Zc,Zc,⟨gR,gD,k2⟩,rfl,rfl,Zq _,⟨by simp,λ i j a b _ e=>by simp at e⟩,⟨by simp,λ n v e=>by cases e⟩⟩
 ·rintro n hn _ h1 ⟨cs,kvs,a5,a6,a7,a8,a9,a10,a11,a12,a13,a14,a15,R,rfl,lc,lk,L,Z⟩
  rw[Zj] at hn
  rw[Zag]
  exact xnx rfl (Jt1 (a5:=a5) hS w D pos (by omega) top R lc lk L Z)
 ·rintro _ h1 ⟨cs,kvs,a5,a6,a7,a8,a9,a10,a11,a12,a13,a14,a15,R,rfl,lc,lk,L,Z⟩
  rw[Zj] at lc
  exact xret (Je rfl ⟨_,cs,rfl,Zq _,R.r,L,by omega,R.ex0⟩)
end
end
theorem Jvk (q:IsNm x):Za0 (.str x)=Zh:=by
 rw[Za0]
 unfold Ze6
 rw[<- ZdF,ZaW]
 intro c hc
 have:=q.2.2 c hc
 simp only[decide_eq_true_eq]
 omega
def dS (v:IV):Zdm:=match v with
 | .str x=>.str x
 | _=>.none
section
variable {k:Nat}{h:IH}
theorem Jxd {zs:List Str}(hi:h[i]?=Za (.lst (zs.map .str)))(hz:∀z∈zs,IsNm z)(hx:IsNm x):cIn (.str x) (.ref i) h=.ok (.bl (zs.any λ a=>decide (a=x))) h:=by
 have e1:toD h 6 (.ref i)=Za (.list ((zs.map IV.str).map dS)):=by
  rw[XM hi,Jmi (g:=dS) λ v hv=>?_]
  ·rfl
  ·obtain⟨z,_,rfl⟩:=Z3.mp hv
   rfl
 have e2:toD h 6 (.str x)=Za (.str x):=rfl
 have c1:ZX ((zs.map IV.str).map dS)=Zh:=Jvl λ v hv=>by
  obtain⟨z,q,rfl⟩:=Z3.mp hv
  exact Jvk (hz z q)
 have e3:inI (.str x) (.ref i) h=Za (zs.any λ a=>decide (a=x)):=by
  unfold inI
  rw[e1,e2]
  dsimp only
  rw[if_pos ⟨c1,Jvk hx⟩]
  clear c1 e1 hi hz
  congr 1
  induction zs with
  | nil=>rfl
  | cons z zs ih =>
   rw[Z6,Z6,ZbB,ZbB,ih]
   rfl
 unfold cIn
 rw[e3]
end
def actv (d:Int)(a:Hd):Bool:=decide (a.2.1<d)&&decide (d<a.2.2)
def act (hs:List Hd)(d:Int):List Str:=(hs.filter (actv d)).map (·.1)
def avV (d:Int)(v:IV):Bool:=match v with
 | .tup [.str _,.int s,.int e]=>decide (s<d)&&decide (d<e)
 | _=>Zk
def frs (v:IV):IV:=match v with
 | .tup (x::_)=>x
 | _=>.non
theorem Jpj (d:Int):∀hs:List Hd,((hs.map tupH).filter (avV d)).map frs=(act hs d).map IV.str
 | []=>rfl
 | a::hs=>by
  have ih:=Jpj d hs
  unfold act at *
  rw[Z6]
  by_cases q:actv d a=Zh
  ·have q':avV d (tupH a)=Zh:=q
   rw[ZdH q',ZdH q,Z6,Z6,Z6,ih]
   rfl
  ·have q':¬avV d (tupH a)=Zh:=q
   rw[ZdI q',ZdI q,ih]
theorem Jwg (hs:List Hd)(d:Int):(act hs d).length<=hs.length:=by
 unfold act
 rw[Zj]
 exact Zbl ..
theorem Jwh (h:x∈act hs d):∃a∈hs,a.1=x:=by
 unfold act at h
 obtain⟨a,ha,rfl⟩:=Z3.mp h
 exact⟨a,(Zau.mp ha).1,rfl⟩
theorem Yc (f:Nat->Int):∀(n j:Nat),j<n->JS f n<=f j
 | 0,j,h=>by omega
 | 1,j,h=>by
  have:j=0:=by omega
  subst this
  exact Zay _
 | n+2,j,h=>by
  rw[Jfh f (by omega:0<n+1)]
  by_cases e:j=n+1
  ·subst e
   split<;>omega
  ·have:=Yc f (n+1) j (by omega)
   split<;>omega
theorem Jl3 (f:Nat->Int):∀(n:Nat),0<n->∃j,j<n/\JS f n=f j
 | 0,h=>by omega
 | 1,_=>⟨0,by omega,rfl⟩
 | n+2,_=>by
  rw[Jfh f (by omega:0<n+1)]
  obtain⟨j,hj,e⟩:=Jl3 f (n+1) (by omega)
  split
  ·exact⟨n+1,by omega,rfl⟩
  ·exact⟨j,by omega,e⟩
def fZ (hss:List (List Hd))(x:Str):Int:=match fstK hss x with
 | some j=>(j:Int)
 | none=>0
def rkNs (hss:List (List Hd))(zs:List Str)(a:Nat):List Int:=(a:Int)::zs.map (fZ hss)
def rk (hss:List (List Hd))(zs:List Str)(a:Nat):Int:=JS (λ i=>(rkNs hss zs a).getD i 0) (rkNs hss zs a).length
theorem Jsy {l:List Int}(h:i<l.length):l.getD i 0∈l:=by
 rw[Zl,Zb h]
 exact Z5 h
def fstV (hss:List (List Hd))(v:IV):IV:=match v with
 | .str t=>.int (fZ hss t)
 | _=>.non
noncomputable def stT (v:IV):ISt:=match v with
 | .tup [x,y,z]=>[Za x,Za y,Za z]
 | _=>[Zc,Zc,Zc]
section
variable {k:Nat}{h:IH}
theorem Jsg {ns:List Int}(hi:h[i]?=Za (.lst (ns.map .int)))(hn:ns≠[]):WR (Xa (.ref i) h) Q=Q (.int (JS (λ i=>ns.getD i 0) ns.length)) h:=by
 unfold Xa
 simp only[hi,Vx]
 rw[if_neg hn]
 rfl
theorem Jsb (hi:h[i]?=Za (.dct kvs))(e:valI kvs (.inr x)=Za v):WR (QF (.ref i) (.str x) h) Q=Q v h:=by
 unfold QF
 simp only[hi,keyI,e]
 rfl
theorem Jlv {gap len due late d:Int}{hs:List Hd}(hw:h[w]?=Za (.ins "Work" (wfs name gap len due late (hs.map tupH))))(l6:hs.length<=6) :
  WR (Jas (k+2) [.ref w,.int d] h) λ v h'=>∃i,v=.ref i/\h.length<=i/\h'[i]?=Za (.lst ((act hs d).map .str))/\Ex h h':=by
 have hb:=J2
 rw[Jh7]
 simp! [Jcq]
 refine WR.mono (YD (h:=h++[IX.lst (hs.map tupH)]) (xs:=hs.map tupH) (chk:=λ h'=>h'[h.length]?=Za (.lst (hs.map tupH))) (p:=avV d) (f:=frs) ?_ (by rw[Zj];omega) (λ h2 q=>q _ _ Jk) ?_ ?_) ?_
 ·rw[JW,VQ (i:=w) (h1:=h) rfl hw flh (Jbg _)]
  simp! [Jfb hw,JN,Jk]
 ·intro v hv h2 q
  obtain⟨a,_,rfl⟩:=Z3.mp hv
  simp only[Z6,Zba,ZaE,ZaF,ZbO]
  simp! [Jbn,tupH,avV,decide_eq_true_eq,decide_eq_false_iff_not]
  exact⟨λ z=>⟨by simp[z],.refl _⟩,λ z=>⟨by simp[z],.refl _⟩⟩
 ·intro v hv _ h2 q
  obtain⟨a,_,rfl⟩:=Z3.mp hv
  simp! [Jbm,tupH,frs]
  exact .refl _
 ·rintro _ _ ⟨rfl,g,rfl⟩
  rw[Jpj]
  exact⟨_,rfl,by rw[Zx];omega,J4,(Ex.one _ _).trans (.cons _ _ _)⟩
theorem Jq4 {a i t:Nat}{zs:List Str}(gi:h[i]?=Za (.lst (zs.map .str)))(gt:h[t]?=Za (.dct kvs))(tv:∀x,(valI kvs (.inr x)).getD .non=fV (fstK hss x))(hz:∀z∈zs,fstK hss z≠Zc)(la:zs.length<=6) :
  WR (Jir (k+1) [.int (a:Int),.ref i,.ref t] h) λ v h'=>v=.int (rk hss zs a)/\Ex h h':=by
 have hb:=J2
 rw[Jqh]
 simp! [Jij,ZC,Zbh]
 refine⟨by omega,?_⟩
 have x3:Ex h (h++[IX.lst [IV.int (a:Int)]]):=.one _ _
 have gA:(h++[IX.lst [IV.int (a:Int)]])[h.length]?=Za (.lst ([(a:Int)].map IV.int)):=Jk
 generalize h.length=A at gA
 generalize h++[IX.lst [IV.int (a:Int)]]=h3 at x3 gA
 refine WR.mono (Ql (h:=h3) (xs:=zs.map IV.str) (chk:=λ h'=>h'[i]?=Za (.lst (zs.map IV.str))) (f:=fstV hss) ?_ (by rw[Zj];omega) (λ h4 q=>q _ _ (x3.get gi)) ?_) ?_
 ·simp! [JN,x3.get gi]
 ·intro v hv h4 q
  obtain⟨x,hx,rfl⟩:=Z3.mp hv
  have e1:=tv x
  have ne:=hz x hx
  cases ef:fstK hss x with
  | none=>exact absurd ef ne
  | some jj =>
   rw[ef] at e1
   have e2:valI kvs (.inr x)=Za (.int (jj:Int)):=by
    cases ev:valI kvs (.inr x) with
    | none=>rw[ev] at e1;cases e1
    | some v=>rw[ev] at e1;rw[show v=.int (jj:Int) from e1]
   simp only[Z6,Zba,ZaE,ZaF,ZbO]
   simp! [Jfv]
   rw[Jsb (q _ _ (x3.get gt)) e2]
   exact⟨by simp only[fstV,fZ,ef],.refl _⟩
 ·rintro _ _ ⟨rfl,g,rfl⟩
  have em:(zs.map IV.str).map (fstV hss)=(zs.map (fZ hss)).map IV.int:=by
   rw[ZaD,ZaD]
   rfl
  rw[em]
  have x4:Ex h3 (h3++IX.lst ((zs.map (fZ hss)).map IV.int)::g):=.cons _ _ _
  simp! [Jj2,x4.get gA,J4,Zj,ZC,Zbh]
  refine⟨by omega,?_⟩
  rw[<- Zbi]
  rw[show[(a:Int)]++zs.map (fZ hss)=rkNs hss zs a from rfl,Jsg (ns:=rkNs hss zs a) Jk (by simp[rkNs])]
  exact⟨rfl,(x3.trans x4).trans (.one _ _)⟩
theorem Jwf {rs:List RH}{a:Nat}(ha:a<rs.length){d:Int}:∀z∈act (rs[a]).2 d,fstK (rs.map (·.2)) z≠Zc:=λ z q=>by
 obtain⟨b,hb',rfl⟩:=Jwh q
 intro e
 unfold fstK at e
 rw[Zb1] at e
 have:=e (rs[a]).2 (Z3.mpr ⟨rs[a],Z5 ha,rfl⟩)
 unfold has at this
 have t2:((rs[a]).2.any λ x=>decide (x.1=b.1))=Zh:=ZbM.mpr ⟨b,hb',by simp⟩
 rw[t2] at this
 cases this
abbrev ofs (D T:Nat):List (Str×IV):=[("duty",.ref D),("tops",.ref T)]
abbrev ofs1 (D:Nat):List (Str×IV):=[("duty",.ref D)]
theorem op0:putI "duty" a ([]:List (Str×IV))=([("duty",a)]:List (Str×IV)):=by kernel_rfl
theorem op1:putI "tops" b ([("duty",a)]:List (Str×IV))=([("duty",a),("tops",b)]:List (Str×IV)):=by kernel_rfl
theorem ol0 {D T:Nat}:(ofs D T).lookup ("duty":Str)=Za (.ref D):=by kernel_rfl
theorem ol1 {D T:Nat}:(ofs D T).lookup ("tops":Str)=Za (.ref T):=by kernel_rfl
theorem olr {D T:Nat}:(ofs D T).lookup ("rank_of":Str)=Zc:=by kernel_rfl
theorem olh {D T:Nat}:(ofs D T).lookup ("holds":Str)=Zc:=by kernel_rfl
def IsOr (h:IH)(O:Nat)(rs:List RH):Prop:=∃D,IsDu h D rs/\∃T kvs,h[O]?=Za (.ins "ByRank" (ofs D T))/\h[T]?=Za (.dct kvs)/\∀x,(valI kvs (.inr x)).getD .non=fV (fstK (rs.map (·.2)) x)
theorem IsOr.kp (k:Kp h h')(o:IsOr h O rs):IsOr h' O rs:=by
 obtain⟨D,d,T,kvs,b,c,e⟩:=o
 exact⟨D,d.kp k,T,kvs,k _ _ b,k _ _ c,e⟩
theorem Jo3 (hO:h[O]?=Za (.ins c [])):Jch (k+1) [.ref O,.ref D] h=.ok .non (h.set O (.ins c (ofs1 D))):=by
 refine Ju ?_
 rw[Jjb]
 simp! [Jdf,VS]
 refine⟨_,_,_,rfl,hO,by decide,?_⟩
 rw[op0]
theorem Jrh (d:IsDu h D rs)(hl:rs.length<=12)(h6:∀r∈rs,r.2.length<=6):WR (Jar (k+4) [.ref h.length,.ref D] (h++[.ins "ByRank" []])) λ v h'=>v=.non/\Ex h h'/\IsOr h' h.length rs:=by
 rw[Jh2]
 simp! [Jcj,Jck,Jo3 (k:=k+2) (h:=h++[.ins "ByRank" []]) Jk,XF,VS]
 have x1:Ex h (h++[IX.ins "ByRank" (ofs1 D)]):=.one _ _
 have d1:=d.kp x1.kp
 obtain⟨vs,gD,w⟩:=id d1
 refine WR.mono (Jg2 (k:=k+1) gD w hl h6) ?_
 rintro _ _ ⟨t,kvs,rfl,gt,tv,g,rfl⟩
 refine⟨_,_,_,rfl,grow Jk,by show(1:Nat)<1000;decide,?_⟩
 rw[op1]
 have e:(h++[IX.ins "ByRank" (ofs1 D)]++g).set h.length (.ins "ByRank" (ofs D t))=h++.ins "ByRank" (ofs D t)::g:=by
  rw[Zad,Zan,Zaw,XG]
 rw[e]
 have kb:KpB h.length (h++[IX.ins "ByRank" (ofs1 D)]++g) (h++IX.ins "ByRank" (ofs D t)::g):=λ j o hj z=>by
  rw[<- e,ZG (ZI hj)]
  exact z
 have ht:t≠h.length:=λ z=>by
  rw[z] at gt
  have:(h++[IX.ins "ByRank" (ofs1 D)]++g)[h.length]?=Za (.ins "ByRank" (ofs1 D)):=grow Jk
  rw[this] at gt
  cases gt
 exact⟨.cons _ _ _,D,d.kp (Ex.cons _ _ _).kp,t,kvs,J4,kb _ _ ht gt,tv⟩
end
section
seal L4.run L4.WS
section
variable {k:Nat}{h:IH}
theorem argC (ea:a σ h=.ok x h1)(eb:b σ h1=.ok xs h2):Jb a b σ h=.ok (x::xs) h2:=by
 show(a σ h).bind (λ x h1=>(b σ h1).bind λ xs h2=>.ok (x::xs) h2)=_
 rw[ea]
 show(b σ h1).bind _=_
 rw[eb]
 rfl
theorem wkE (hD:h[D]?=Za (.ins "Duty" (dfs vs)))(eo:o σ h=.ok (.ref D) h)(ee:e σ h=.ok (.int n) h)(av:atI vs n=Za (.ref j)):Jo (pg (k+1)) "work" 1 o (Jb e Jd) σ h=.ok (.ref j) h:=dotE eo hD dlw (Jc0 _) (arg1 ee) (Jg6 hD av)
theorem Jpx {O D T:Nat}{rs:List RH}{kvs:List (Key×IV)}{c:Cm}{d:Int}(hd:IsDu h D rs)(gO:h[O]?=Za (.ins "ByRank" (ofs D T)))(gT:h[T]?=Za (.dct kvs))(tv:∀x,(valI kvs (.inr x)).getD .non=fV (fstK (rs.map (·.2)) x))(ha:c.at_<rs.length)(l6:∀r∈rs,r.2.length<=6) :
  WR (Jao (k+3) [.ref O,tupC c,.int d] h) λ v h'=>v=.int (rk (rs.map (·.2)) (act (rs[c.at_]).2 d) c.at_)/\Ex h h':=by
 obtain⟨vs,gD,w⟩:=hd
 obtain⟨j,ej,gj⟩:=w.get (Zb ha)
 have av:atI vs (c.at_:Int)=Za (.ref j):=JI ej
 have hz:=Jwf ha (d:=d)
 have l:=l6 _ (Z5 ha)
 generalize rs[c.at_]=r at gj hz l
 rw[Jfj]
 refine xfin (xret (xb (xb ?_)))
 refine Je (ixtE rfl rfl JP) (xb (xb (xb (Je (arg2 (wkE gD (fldE rfl gO ol0) (ixtE rfl rfl JP) av) rfl) (WR.mono (Jlv (k:=k) gj l) ?_)))))
 rintro _ h1 ⟨i,rfl,li,gi,x1⟩
 have la:=Jwg r.2 d
 refine xb (Je (arg1 (fldE rfl (x1.get gO) ol1)) (Je rfl (Je rfl (WR.mono (Jq4 (k:=k+1) gi (x1.get gT) tv hz (by omega)) ?_))))
 rintro _ h2 ⟨rfl,x2⟩
 exact⟨rfl,x1.trans x2⟩
theorem Jkj {O D T:Nat}{c:Cm}{d:Int}(hd:IsDu h D rs)(gO:h[O]?=Za (.ins "ByRank" (ofs D T)))(ha:c.at_<rs.length)(l6:∀r∈rs,r.2.length<=6) :
  WR (Jbi (k+3) [.ref O,tupC c,.int d] h) λ v h'=>v=.bl (!(act (rs[c.at_]).2 d).isEmpty)/\Ex h h':=by
 obtain⟨vs,gD,w⟩:=hd
 obtain⟨j,ej,gj⟩:=w.get (Zb ha)
 have av:atI vs (c.at_:Int)=Za (.ref j):=JI ej
 have l:=l6 _ (Z5 ha)
 generalize rs[c.at_]=r at gj l
 rw[Jg9]
 obtain⟨_,h1,e1,i,rfl,li,gi,x1⟩:=(Jlv (k:=k) (d:=d) gj l).eq
 refine xfin (xret (Je ((binE (lenE (JY (arg2 (wkE gD (fldE rfl gO ol0) (ixtE rfl rfl JP) av) rfl) e1) gi) rfl).trans rfl) ⟨?_,x1⟩))
 rw[Zj]
 cases act r.2 d<;>simp
def Ya (rs:List RH)(c:Cm)(d:Int):Int:=rk (rs.map (·.2)) (act (rs.getD c.at_ rd).2 d) c.at_
def Xp (rs:List RH)(c:Cm)(d:Int):Bool:=!(act (rs.getD c.at_ rd).2 d).isEmpty
theorem Ym {rs:List RH}(hn:n<rs.length):rs.getD n rd=rs[n]:=by rw[Zl,Zb hn];rfl
theorem Jrd (o:IsOr h O rs):∃Du,IsDu h Du rs/\∀(e:E1) (σ:ISt),e σ h=.ok (.ref O) h->Jp "duty" e σ h=.ok (.ref Du) h:=by
 obtain⟨D,hd,T,kvs,gO,_⟩:=o
 exact⟨D,hd,λ e σ he=>fldE he gO ol0⟩
theorem Joe {O:Nat}{d:Int}{oe e1 e2:E1}(o:IsOr h O rs)(ho:oe σ h=.ok (.ref O) h)(h1:e1 σ h=.ok (tupC c) h)(h2:e2 σ h=.ok (.int d) h)(ha:c.at_<rs.length)(l6:∀r∈rs,r.2.length<=6) :
  WR (Jo (pg (k+3)) "rank_of" 2 oe (Jb e1 (Jb e2 Jd)) σ h) λ v h'=>v=.int (Ya rs c d)/\Ex h h':=by
 obtain⟨D,hd,T,kvs,gO,gT,tv⟩:=o
 refine XT ho gO olr (Jfi _) (Je (arg2 h1 h2) (WR.mono (Jpx (k:=k) hd gO gT tv ha l6) ?_))
 rintro _ h3 ⟨rfl,x3⟩
 exact⟨by rw[Ya,Ym ha],x3⟩
theorem Jly (o:IsOr h O rs)(ho:oe σ h=.ok (.ref O) h)(h1:e1 σ h=.ok (tupC c) h)(h2:e2 σ h=.ok (.int d) h)(ha:c.at_<rs.length)(l6:∀r∈rs,r.2.length<=6) :
  WR (Jo (pg (k+3)) "holds" 2 oe (Jb e1 (Jb e2 Jd)) σ h) λ v h'=>v=.bl (Xp rs c d)/\Ex h h':=by
 obtain⟨D,hd,T,kvs,gO,gT,tv⟩:=o
 refine XT ho gO olh (Jg4 _) (Je (arg2 h1 h2) (WR.mono (Jkj (k:=k) hd gO ha l6) ?_))
 rintro _ h3 ⟨rfl,x3⟩
 exact⟨by rw[Xp,Ym ha],x3⟩
end
end
def cd:Cm:=⟨0,0,0,0⟩
def keyN (rs:List RH)(cs:List Cm)(ds:List Int)(n:Nat):List Int:=[Ya rs (cs.getD n cd) (ds.getD n 0),if Xp rs (cs.getD n cd) (ds.getD n 0)=Zh then 0 else 1,(n:Int)]
def keyV (rs:List RH)(cs:List Cm)(ds:List Int)(v:IV):List Int:=match v with
 | .int x=>keyN rs cs ds x.toNat
 | _=>[0,0,0]
theorem Jvp:∀{a b:List Int},a.length=b.length->ltL a b=Zk->ltL b a=Zk->a=b
 | [],[],_,_,_=>rfl
 | a::as,b::bs,l,h1,h2=>by
  unfold ltL at h1 h2
  by_cases e:a=b
  ·subst e
   rw[if_pos rfl] at h1 h2
   rw[Jvp (by simpa using l) h1 h2]
  ·rw[if_neg e,decide_eq_false_iff_not] at h1
   rw[if_neg (ZI e),decide_eq_false_iff_not] at h2
   omega
 | [],_::_,l,_,_=>by simp at l
 | _::_,[],l,_,_=>by simp at l
section
variable {k:Nat}{h:IH}
theorem Jym (hx:xs≠[])(hy:ys≠[])(hl:xs.length+ys.length<=sizeLine):WR (Jl (.tup xs) (.tup ys) h) Q=Q (.tup (xs++ys)) h:=by
 unfold Jl
 dsimp only
 rw[if_pos ⟨hx,hy,hl⟩]
 rfl
theorem ols {D T:Nat}:(ofs D T).lookup ("standing":Str)=Zc:=by kernel_rfl
theorem olp {D T:Nat}:(ofs D T).lookup ("pick":Str)=Zc:=by kernel_rfl
abbrev stv (rs:List RH)(c:Cm)(d:Int):IV:=.tup [.int (Ya rs c d),.int (if Xp rs c d=Zh then 0 else 1)]
theorem Jmt {c:Cm}{d:Int}(o:IsOr h O rs)(ha:c.at_<rs.length)(l6:∀r∈rs,r.2.length<=6) :
  WR (Jap (k+4) [.ref O,tupC c,.int d] h) λ v h'=>v=stv rs c d/\Ex h h':=by
 have hb:=J2
 rw[Jfk]
 dsimp! [Ja8]
 refine WR.mono (Joe (k:=k) (c:=c) (d:=d) o rfl rfl rfl ha l6) ?_
 rintro _ h1 ⟨rfl,x1⟩
 try simp(implicitDefEqProofs:=Zk) only[YX,YW,Jj9,YY,YV,YZ,Jka,YU,Xl,Jn9,Jj8,Joa,XS,Qu,Jr,V6,Qh,Yj,Jsu,Vn,Ju4,Jnv,Ju1,YH,YS,Jn8,Jj5,Jj6,YC,Jj3,Jgg,YT,YM,Jj4,VR,Juq,Xj,Jnz,Jgi,Jgj,V8,YG,YA,Jn7,Jn3,YO,YE,YN,V7,YB,Juy,Juw,Juu,Jut,Jus,Juz,Jny,Jn4,Jnw,Jj7,Jn5,YF,Ju0,JW,V5,Xk,YQ,Jn0,Jn2,Jn1,Jn6,Jgh,Krz,Ksz,Kvz,Ktz,Kuz]
 refine WR.mono (Jly (k:=k) (c:=c) (d:=d) (o.kp x1.kp) rfl rfl rfl ha l6) ?_
 rintro _ h2 ⟨rfl,x2⟩
 have x:=x1.trans x2
 simp! [ZC,Zbh,stv]
 cases Xp rs c d with
 | true=>exact⟨λ _=>⟨by omega,rfl,x⟩,λ z=>by cases z⟩
 | false=>exact⟨(λ z=>by cases z),λ _=>⟨by omega,rfl,x⟩⟩
theorem Jhs {O:Nat}{d:Int}{oe e1 e2:E1}(o:IsOr h O rs)(ho:oe σ h=.ok (.ref O) h)(h1:e1 σ h=.ok (tupC c) h)(h2:e2 σ h=.ok (.int d) h)(ha:c.at_<rs.length)(l6:∀r∈rs,r.2.length<=6) :
  WR (Jo (pg (k+4)) "standing" 2 oe (Jb e1 (Jb e2 Jd)) σ h) λ v h'=>v=stv rs c d/\Ex h h':=by
 have so:=Jmt (k:=k) (d:=d) o ha l6
 obtain⟨D,hd,T,kvs,gO,gT,tv⟩:=o
 rw[VQ (i:=O) (h1:=h) ho gO ols (Je2 _)]
 dsimp! [h1,h2]
 exact so
theorem Jxx {O R W N:Nat}{ps:List Nat}{ds:List Int}(h0:h[0]?=Za (.tab "Order.pick"))(o:IsOr h O rs)(l6:∀r∈rs,r.2.length<=6)(hc:∀c∈cs,c.at_<rs.length) 
  (gR:h[R]?=Za (.lst (cs.map tupC)))(gW:h[W]?=Za (.lst (ps.map λ p:Nat=>.int p)))(gN:h[N]?=Za (.lst (ds.map .int)))(ld:ds.length=cs.length)(ne:ps≠[])(hp:∀p∈ps,p<cs.length) :
  WR (Ja5 (k+5) [.ref O,.ref R,.ref W,.ref N] h) λ v h'=>∃p∈ps,v=.int (p:Int)/\(∀p'∈ps,ltL (keyN rs cs ds p') (keyN rs cs ds p)=Zk)/\Ex h h':=by
 have hb:=J2
 rw[Jjc]
 dsimp! [Jdg]
 rw[Jyu h0 rfl]
 refine WR.mono (Jsd (kf:=keyV rs cs ds) (n:=3) gW (by simpa using ne) ?_ ?_) ?_
 ·intro y hy h1 x1
  obtain⟨p,hp',rfl⟩:=Z3.mp hy
  have lp:=hp p hp'
  have ac:atI (cs.map tupC) (p:Int)=Za (tupC cs[p]):=JI (by rw[Z1,Zb lp];rfl)
  have ad:atI (ds.map IV.int) (p:Int)=Za (.int (ds[p]'(by omega))):=JI (by rw[Z1,Zb];rfl)
  have ek:keyV rs cs ds (.int (p:Int))=[Ya rs cs[p] (ds[p]'(by omega)),if Xp rs cs[p] (ds[p]'(by omega))=Zh then 0 else 1,(p:Int)]:=by
   show keyN rs cs ds (Zen (p:Int))=_
   rw[ZaZ]
   unfold keyN
   rw[Zl,Zl,Zb lp,Zb (show p<ds.length by omega)]
   rfl
  have hc':=hc _ (Z5 lp)
  rw[ek]
  generalize cs[p]=c at ac hc'
  generalize ds[p]'(by omega)=d at ad
  simp only[Z6,Zba,ZaE,ZaF,ZbO]
  generalize hσ:([Za (.int (p:Int)),Za (.ref N),Za (.ref R),Za (.ref O)]:ISt)=σ
  have e1:Jc Jf (Ja 2) (Ja 0) σ h1=.ok (tupC c) h1:=Ju (by subst hσ;simp! [Jsc,x1.get gR,ac])
  have e2:Jc Jf (Ja 1) (Ja 0) σ h1=.ok (.int d) h1:=Ju (by subst hσ;simp! [Jsc,x1.get gN,ad])
  dsimp! [Jcc]
  refine WR.mono (Jhs (k:=k) (o.kp x1.kp) (by subst hσ;rfl) e1 e2 hc' l6) ?_
  rintro _ h2 ⟨rfl,x2⟩
  subst hσ
  simp! [stv,ZC,Zbh]
  refine⟨by omega,?_⟩
  rw[Jym (by simp) (by simp) (by simp;omega)]
  exact⟨rfl,x2⟩
 ·intro y hy
  obtain⟨p,hp',rfl⟩:=Z3.mp hy
  rfl
 ·rintro v h1 ⟨hv,le,x1⟩
  obtain⟨p,hp',rfl⟩:=Z3.mp hv
  refine⟨p,hp',rfl,λ p' q=>?_,x1⟩
  have:=le _ (Z3.mpr ⟨p',q,rfl⟩)
  simpa only[keyV,ZaZ] using this
theorem Jod {O:Nat}{oe:E1}{a:A1}{v1 v2 v3:IV}(o:IsOr h O rs)(ho:oe σ h=.ok (.ref O) h)(h1:a σ h=.ok [v1,v2,v3] h)(q:WR (Ja5 k [.ref O,v1,v2,v3] h) P) :
  WR (Jo (pg k) "pick" 3 oe a σ h) P:=by
 obtain⟨D,hd,T,kvs,gO,gT,tv⟩:=o
 rw[VQ (i:=O) (h1:=h) ho gO olp (Jh0 _),h1]
 dsimp! [YW]
 exact q
end
section
seal L4.run L4.WS
def rdC (c:Cm):Int:=c.come+c.late
section
variable {k:Nat}{h:IH}
theorem chL (ea:a σ h=.ok (.int i) h1)(eb:b σ h1=.ok (.int j) h2)(ec:c σ h2=.ok (.int l) h3)(t1:i<=j)(t2:j<=l):JT cLe cLe a b c σ h=.ok (.bl Zh) h3:=by
 unfold JT
 rw[ea]
 dsimp only[Res.bind]
 rw[eb]
 show(match IV.bl (decide (i<=j)) with|.bl Zh=>_|.bl Zk=>_|_=>_)=_
 rw[decide_eq_true t1]
 show(c σ h2).bind _=_
 rw[ec]
 show Res.ok (IV.bl (decide (j<=l))) h3=_
 rw[decide_eq_true t2]
theorem Jtf (hd:IsDu h D rs)(ok:COk rs c):WR (Jdp (k+3) [.ref D,tupC c] h) λ v h'=>v=.bl Zh/\Ex h h':=by
 have hb:=J2
 obtain⟨vs,hD,w⟩:=hd
 have wl:=w.len
 obtain⟨a,b,c,d⟩:=c
 obtain⟨q1,q2,q3,q4,q5,q6⟩:=ok
 have q1:a<rs.length:=q1
 obtain⟨j,ev,gj⟩:=w.get (Zb q1)
 have av:=JI ev
 have q4:c<=(rs[a]).1.late:=q4
 have q6:d<=(rs[a]).1.len:=q6
 generalize rs[a]=r at gj q4 q6
 rw[Jkw]
 refine xfin (xseq (xiff rfl (xnil (xseq ?_))))
 obtain⟨_,_,ec,rfl,g,rfl⟩:=(Ql (it:=Jw (Ja 1)) (e:=Ja3 (k+2)) (js:=[]) (σ:=[Za (.ref D),Za (tupC ⟨a,b,c,d⟩),Zc]) (h0:=h) (h:=h) (xs:=[IV.int (a:Int),IV.int b,IV.int c,IV.int d]) (chk:=λ _=>True) (f:=λ _=>.bl Zh) ⟨rfl,rfl,rfl⟩ (by simp;omega) (λ _ _=>trivial) (by
  intro v hv h2 q
  obtain⟨i,rfl⟩:∃i,v=.int i:=by
   simp only[Z7,ZS,or_false] at hv
   rcases hv with rfl|rfl|rfl|rfl<;>exact⟨_,rfl⟩
  unfold Ja3
  exact Je (JY (arg1 rfl) (Jfw _)) ⟨rfl,.refl _⟩)).eq
 refine xiff (notE (c:=Zh) (truE ((cbE (arg1 ec)).trans (all_map (f:=λ _=>Zh) J4)))) (xnil ?_)
 have x1:Ex h (h++IX.lst ([IV.int (a:Int),IV.int b,IV.int c,IV.int d].map λ _=>.bl Zh)::g):=.cons _ _ _
 generalize h++IX.lst ([IV.int (a:Int),IV.int b,IV.int c,IV.int d].map λ _=>.bl Zh)::g=h1 at x1
 have D1:=x1.get hD
 refine xseq (xiff (orF (notE (tofE (chT rfl (ixtE rfl rfl JP) (dotE rfl D1 dls (Jcz _) rfl (Jg5 D1)) (Int.natCast_nonneg a) (by rw[wl];omega)))) (okc (ltE (ixtE rfl rfl JX) rfl) (decide_eq_false (Int.not_lt.mpr q2)))) (xnil (xseq (xset (Je (wkE D1 rfl (ixtE rfl rfl JP) av) ?_)))))
 exact xret (Je (J13 (chL rfl (ixtE rfl rfl Qm) (fldE rfl (x1.get gj) fl4) q3 q4) (chL rfl (ixtE rfl rfl Qy) (fldE rfl (x1.get gj) fl2) q5 q6)) ⟨rfl,x1⟩)
theorem Jwz {cs:List Cm}(hd:IsDu h D rs)(gR:h[R]?=Za (.lst (cs.map tupC)))(L:Legal rs cs)(hl:cs.length<=1000) :
  WR (Jbs (k+4) [.ref D,.ref R] h) λ v h'=>v=.non/\Ex h h':=by
 have hb:=J2
 obtain⟨vs,hD,w⟩:=id hd
 rw[Jh3]
 refine xfin (xseq (xset (Je rfl (xseq (xfor ?_)))))
 rw[V5]
 refine Je (arg1 rfl) ((Jr8 _).mpr ⟨_,grow gR,?_⟩)
 refine Qv (λ n σ h'=>∃kvs g a b c,h'=h++IX.dct kvs::g/\σ=[Za (.ref D),Za (.ref R),Za (.ref h.length),a,b,c]/\kvs.length<=n/\∀(a:Nat) v,valI kvs (.inl (a:Int))=Za v->∃i c,i<n/\cs[i]?=Za c/\c.at_=a/\v=.int c.come) ?_ ?_ ?_ ⟨[],[],Zc,Zc,Zc,rfl,rfl,Zq _,λ a v e=>by cases e⟩
 ·rintro _ _ _ ⟨kvs,g,a,b,c,rfl,_⟩
  exact grow gR
 ·rintro n hn _ _ ⟨kvs,g,a,b,c,rfl,rfl,ln,td⟩
  rw[Jqc]
  have hc:n<cs.length:=by simpa [Xv] using hn
  have x1:Ex h (h++IX.dct kvs::g):=.cons _ _ _
  rw[Zag]
  have ec:cs[n]?=Za cs[n]:=Zb hc
  have ok:=L.ok _ (Z5 hc)
  generalize cs[n]=ci at ec ok
  obtain⟨_,_,e2,rfl,g2,rfl⟩:=(Jtf (k:=k) (c:=ci) (hd.kp x1.kp) ok).eq
  refine xnx rfl (xseq (xiff (notE (truE (JY (arg2 rfl rfl) e2))) (xnil (xseq (xset (Je (ixtE rfl rfl JP) (xseq ?_)))))))
  have eh:h++IX.dct kvs::g++g2=h++IX.dct kvs::(g++g2):=by rw[Zad,Zan]
  rw[eh]
  have x2:Ex h (h++IX.dct kvs::(g++g2)):=.cons _ _ _
  have hat:=ok.at_
  have er:=Zb hat
  obtain⟨j,ev,gj⟩:=w.get er
  have av:=JI ev
  generalize rs[ci.at_]=r at er gj
  have fin:∀{σ:ISt}(a b c),σ=[Za (.ref D),Za (.ref R),Za (.ref h.length),a,b,c]->∃kvs_1 g_1 a b c,List.set (h++IX.dct kvs::(g++g2)) h.length (IX.dct (putD kvs (.inl (ci.at_:Int)) (.int ci.come)))=h++IX.dct kvs_1::g_1/\σ=[Za (.ref D),Za (.ref R),Za (.ref h.length),a,b,c]/\kvs_1.length<=n+1/\∀(a:Nat) v,valI kvs_1 (.inl (a:Int))=Za v->∃i c,i<n+1/\cs[i]?=Za c/\c.at_=a/\v=.int c.come:=by
   intro σ a b c hσ
   refine⟨_,_,_,_,_,XG _ _ _,hσ,?_,λ a v e=>?_⟩
   ·unfold putD
    split
    ·rw[Zj];omega
    ·rw[Zx,ZaA];omega
   ·rw[Jjy] at e
    split at e
    ·rename_i z
     cases e
     exact⟨n,ci,by omega,ec,by have:=Sum.inl.inj z;omega,rfl⟩
    ·obtain⟨i,c,h1,h2⟩:=td a v e
     exact⟨i,c,by omega,h2⟩
  have key:∀{σ:ISt}(a b:Option IV),σ=[Za (.ref D),Za (.ref R),Za (.ref h.length),a,Za (tupC ci),Za (.int (ci.at_:Int))]->∀P,WS (sAsg (Jc Jf (Ja 4) (eC (.int 1))) (gSbD (Ja 2) (Ja 5)) σ (h++IX.dct kvs::(g++g2))) (λ σ h'=>∃kvs g a b c,h'=h++IX.dct kvs::g/\σ=[Za (.ref D),Za (.ref R),Za (.ref h.length),a,b,c]/\kvs.length<=n+1/\∀(a:Nat) v,valI kvs (.inl (a:Int))=Za v->∃i c,i<n+1/\cs[i]?=Za c/\c.at_=a/\v=.int c.come) P:=by
   rintro σ a b rfl P
   refine(Xl ..).mpr (Je (ixtE rfl rfl JX) ?_)
   rw[Jsi]
   refine Je rfl (Je rfl ?_)
   rw[Job (J4 (h:=h)) (show kvs.length<sizeLine by omega)]
   exact fin _ _ _ rfl
  have ei:∀{σ:ISt}(a b:Option IV),σ=[Za (.ref D),Za (.ref R),Za (.ref h.length),a,Za (tupC ci),Za (.int (ci.at_:Int))]->Jh asB (Jc cInD (Ja 5) (Ja 2)) σ (h++IX.dct kvs::(g++g2))=.ok (valI kvs (.inl (ci.at_:Int))).isSome (h++IX.dct kvs::(g++g2)):=by
   rintro σ a b rfl
   exact tofE ((binE rfl rfl).trans (Ju (by rw[Jsa J4];exact⟨rfl,rfl⟩)))
  cases el:valI kvs (.inl (ci.at_:Int)) with
  | none=>exact xiff (andF ((ei _ Zc rfl).trans (by rw[el];rfl))) (xnil (key _ Zc rfl _))
  | some l =>
   obtain⟨i,c0,hi,e0,ea,rfl⟩:=td _ _ el
   have far:=L.far i n c0 ci hi e0 ec ea r (by rw[ea];exact er)
   exact xiff (andT ((ei _ Zc rfl).trans (by rw[el];rfl)) (okc (ltE (subE (ixtE rfl rfl JX) ((binE rfl rfl).trans (Ju (by rw[Jwc J4 el];exact⟨rfl,rfl⟩)))) (fldE (wkE (x2.get hD) rfl rfl av) (x2.get gj) fl1)) (decide_eq_false (by omega)))) (xnil (key _ Zc rfl _))
 ·rintro _ _ ⟨kvs,g,a,b,c,rfl,rfl,_⟩
  exact xret (Je rfl ⟨rfl,.cons _ _ _⟩)
theorem Jy3 {cs:List Cm}(hd:IsDu h D rs)(gR:h[R]?=Za (.lst (cs.map tupC)))(L:Legal rs cs)(hl:cs.length<=200) :
  WR (Jgk (k+5) [.ref D,.ref R] h) λ v h'=>v=.non/\Ex h h':=by
 rw[Joi]
 refine xfin (xseq (xiff (okc (gtE (lenE rfl gR) rfl) (decide_eq_false (by rw[Zj];omega))) (xnil (xseq (xset (xb (Je (arg2 rfl rfl) (WR.mono (Jwz (k:=k) hd gR L (by omega)) ?_))))))))
 rintro _ h1 ⟨rfl,x1⟩
 exact xiff rfl (xnil ⟨rfl,x1⟩)
theorem Jnd:Jis (k+1) [tupC c] h=.ok (.int (rdC c)) h:=Ju (by rw[Js1];exact xfin (xret (Je (addE (ixtE rfl rfl JX) (ixtE rfl rfl Qm)) ⟨rfl,rfl⟩)))
end
end
theorem Joc {t:T1}{b:S1}{σ:ISt}{h:IH}{N:ISt->IH->Prop}{R:IV->IH->Prop}(I:Nat->ISt->IH->Prop) 
  (turn:∀m σ h,I m σ h->WR (t σ h) λ c h1=>(c=Zh->∃m',m=m'+1/\WS (b σ h1) (I m') R)/\(c=Zk->N σ h1)){m:Nat}(hm:m<1000000)(start:I m σ h):WS (Xd t b σ h) N R:=by
 have key:∀(n m:Nat)(σ:ISt)(h:IH),m<n->I m σ h->WS (V4 t b n σ h) N R:=by
  intro n
  induction n with
  | zero=>intro m σ h hn _;omega
  | succ n ih =>
   intro m σ h hn hI
   obtain⟨c,h1,e,q1,q2⟩:=(turn m σ h hI).eq
   unfold V4
   rw[e]
   cases c with
   | false=>exact q2 rfl
   | true =>
    obtain⟨m',rfl,w⟩:=q1 rfl
    simp only[if_true]
    cases eb:b σ h1 with
    | next σ2 h2=>rw[eb] at w;exact ih m' σ2 h2 (by omega) w
    | ret v h2=>rw[eb] at w;exact w
    | _=>rw[eb] at w;exact w.elim
 have et:XN=1000000:=by unfold XN;rfl
 unfold Xd
 exact key _ m σ h (by rw[et];exact hm) start
structure Bs where
 ds:List Int
 lr:List Nat
 wa:List Nat
 t:Int
 sr:List (Nat×Int×Int)
def rdN (cs:List Cm)(p:Nat):Int:=rdC (cs.getD p cd)
def lnN (cs:List Cm)(p:Nat):Int:=(cs.getD p cd).len
def hsN (rs:List RH)(cs:List Cm)(p:Nat):List Hd:=(rs.getD (cs.getD p cd).at_ rd).2
def pops (cs:List Cm)(t:Int):List Nat->List Nat->List Nat×List Nat
 | [],wa=>([],wa)
 | p::lr,wa=>if rdN cs p<=t then pops cs t lr (wa++[p]) else(p::lr,wa)
def tIn (cs:List Cm)(s:Bs):Int:=match s.wa,s.lr with
 | [],p::_=>if rdN cs p>s.t then rdN cs p else s.t
 | _,_=>s.t
def letM (cs:List Cm)(s:Bs):Bs:=⟨s.ds,(pops cs (tIn cs s) s.lr s.wa).1,(pops cs (tIn cs s) s.lr s.wa).2,tIn cs s,s.sr⟩
def Vq (rs:List RH)(cs:List Cm)(ds:List Int)(wa:List Nat)(p:Nat):Prop:=p∈wa/\∀q∈wa,ltL (keyN rs cs ds q) (keyN rs cs ds p)=Zk
def X8 (rs:List RH)(cs:List Cm)(ds:List Int)(wa:List Nat):Nat:=(wa.find? λ p=>wa.all λ q=>!ltL (keyN rs cs ds q) (keyN rs cs ds p)).getD 0
theorem Vq.uniq (a:Vq rs cs ds wa p)(b:Vq rs cs ds wa q):p=q:=by
 have:=Jvp (a:=keyN rs cs ds p) (b:=keyN rs cs ds q) rfl (b.2 p a.1) (a.2 q b.1)
 simp only[keyN,Zda,and_true] at this
 omega
theorem Vq.eq (a:Vq rs cs ds wa p):X8 rs cs ds wa=p:=by
 unfold X8
 cases e:wa.find? λ p=>wa.all λ q=>!ltL (keyN rs cs ds q) (keyN rs cs ds p) with
 | none =>
  have:=List.find?_eq_none.mp e p a.1
  simp only[ZaW,ZaO,Bool.not_eq_true] at this
  exact absurd a.2 this
 | some q =>
  have h1:=List.find?_some e
  simp only[ZaW,ZaO] at h1
  exact Vq.uniq ⟨List.mem_of_find?_eq_some e,h1⟩ a
def Qk (hs:List Hd)(d len:Int):List Int:=len::(hs.filter λ a=>decide (d<a.2.2)).map (·.2.2)
def QI (hs:List Hd)(d len:Int):Int:=JS (λ i=>(Qk hs d len).getD i 0) (Qk hs d len).length
def JV (rs:List RH)(cs:List Cm)(s:Bs)(p:Nat):Int:=match s.lr with
 | []=>QI (hsN rs cs p) (s.ds.getD p 0) (lnN cs p)-s.ds.getD p 0
 | q::_=>if rdN cs q-s.t<QI (hsN rs cs p) (s.ds.getD p 0) (lnN cs p)-s.ds.getD p 0 then rdN cs q-s.t else QI (hsN rs cs p) (s.ds.getD p 0) (lnN cs p)-s.ds.getD p 0
def Vm (p:Nat)(t u:Int):List (Nat×Int×Int)->List (Nat×Int×Int)
 | []=>[(p,t,u)]
 | a::r=>if a.1=p then(p,a.2.1,u)::r else(p,t,u)::a::r
def doM (rs:List RH)(cs:List Cm)(s:Bs)(p:Nat)(n:Int):Bs:=⟨s.ds.set p (s.ds.getD p 0+n),s.lr,if s.ds.getD p 0+n=lnN cs p then s.wa.erase p else s.wa,s.t+n,Vm p s.t (s.t+n) s.sr⟩
def goM (rs:List RH)(cs:List Cm)(s:Bs):Bs:=doM rs cs s (X8 rs cs s.ds s.wa) (JV rs cs s (X8 rs cs s.ds s.wa))
def Q5 (rs:List RH)(cs:List Cm)(s:Bs):Bs:=goM rs cs (letM cs s)
def runM (rs:List RH)(cs:List Cm):Nat->Bs->Bs
 | 0,s=>s
 | m+1,s=>if s.lr=[]/\s.wa=[] then s else runM rs cs m (Q5 rs cs s)
def lr0 (cs:List Cm):List Nat:=(ordK (cs.map rdC).reverse cs.length).map λ i=>cs.length-1-i
def s0 (cs:List Cm):Bs:=⟨cs.map λ _=>0,lr0 cs,[],0,[]⟩
def finM (rs:List RH)(cs:List Cm):Bs:=runM rs cs (8*cs.length) (s0 cs)
theorem Jno (hs:List Hd)(d len:Int):QI hs d len=len∨∃a∈hs,d<a.2.2/\QI hs d len=a.2.2:=by
 obtain⟨j,hj,e⟩:=Jl3 (λ i=>(Qk hs d len).getD i 0) (Qk hs d len).length (by simp[Qk])
 unfold QI
 rw[e]
 cases j with
 | zero=>exact .inl rfl
 | succ j =>
  refine .inr ?_
  have hj':j<(hs.filter λ a=>decide (d<a.2.2)).length:=by simpa [Qk] using hj
  have m:=Z5 hj'
  rw[Zau] at m
  refine⟨_,m.1,of_decide_eq_true m.2,?_⟩
  simp[Qk,Zl,Zb hj']
theorem Jru (hs:List Hd)(d len:Int):QI hs d len<=len:=Yc (λ i=>(Qk hs d len).getD i 0) _ 0 (by simp[Qk])
theorem Jyf (h:d<len):d<QI hs d len:=by
 rcases Jno hs d len with e|⟨a,_,l,e⟩<;>omega
structure Wf (cs:List Cm)(s:Bs):Prop where
 ld:s.ds.length=cs.length
 mem:∀p∈s.lr++s.wa,p<cs.length
 nd:(s.lr++s.wa).Nodup
 srt:s.lr.Pairwise λ p q=>rdN cs p<=rdN cs q
 z:∀p∈s.lr++s.wa,0<=s.ds.getD p 0/\s.ds.getD p 0<lnN cs p
 dn:∀p,p<cs.length->p∉s.lr++s.wa->s.ds.getD p 0=lnN cs p
 z0:∀p∈s.lr,s.ds.getD p 0=0
 rw:∀p∈s.wa,rdN cs p<=s.t
theorem Jhk (cs:List Cm)(t:Int):∀(lr wa:List Nat),((pops cs t lr wa).1++(pops cs t lr wa).2).Perm (lr++wa)
 | [],wa=>.refl _
 | p::lr,wa=>by
  unfold pops
  split
  ·refine(Jhk cs t lr (wa++[p])).trans ?_
   rw[<- Zad]
   exact List.perm_append_singleton p (lr++wa)
  ·exact .refl _
theorem Xc (cs:List Cm)(t:Int):∀(lr wa:List Nat),∃a,lr=a++(pops cs t lr wa).1/\(pops cs t lr wa).2=wa++a/\(∀p∈a,rdN cs p<=t)/\∀q r,(pops cs t lr wa).1=q::r->t<rdN cs q
 | [],wa=>⟨[],rfl,by simp[pops],by simp,by simp[pops]⟩
 | p::lr,wa=>by
  unfold pops
  split
  ·rename_i c
   obtain⟨a,e1,e2,e3,e4⟩:=Xc cs t lr (wa++[p])
   exact⟨p::a,congrArg (p:: ·) e1,by rw[e2];simp,λ q hq=>by rcases Z7.mp hq with rfl|hq;exact c;exact e3 q hq,e4⟩
  ·rename_i c
   exact⟨[],rfl,by simp,by simp,λ q r e=>by cases e;omega⟩
theorem Jrx (cs:List Cm)(s:Bs):s.t<=tIn cs s:=by
 unfold tIn
 split
 ·split<;>omega
 ·omega
theorem Wf.let (w:Wf cs s):Wf cs (letM cs s):=by
 obtain⟨a,e1,e2,e3,e4⟩:=Xc cs (tIn cs s) s.lr s.wa
 have pm:=Jhk cs (tIn cs s) s.lr s.wa
 have tg:=Jrx cs s
 refine⟨w.ld,λ p hp=>w.mem p (pm.mem_iff.mp hp),pm.nodup_iff.mpr w.nd,?_,λ p hp=>w.z p (pm.mem_iff.mp hp),λ p l hp=>w.dn p l λ z=>hp (pm.mem_iff.mpr z),λ p hp=>w.z0 p ?_,λ p hp=>?_⟩
 ·have:=w.srt
  rw[e1] at this
  exact(Zci.mp this).2.1
 ·rw[e1]
  exact Zi _ hp
 ·have hp:p∈(pops cs (tIn cs s) s.lr s.wa).2:=hp
  rw[e2] at hp
  rcases ZL.mp hp with hp|hp
  ·have:=w.rw p hp
   exact ZbV this tg
  ·exact e3 p hp
theorem Jq2 {s:Bs}(ne:¬(s.lr=[]/\s.wa=[])):(letM cs s).wa≠[]:=by
 obtain⟨a,e1,e2,e3,e4⟩:=Xc cs (tIn cs s) s.lr s.wa
 intro e
 have e:(pops cs (tIn cs s) s.lr s.wa).2=[]:=e
 rw[e2] at e
 obtain⟨ew,ea⟩:=List.append_eq_nil_iff.mp e
 cases el:s.lr with
 | nil=>exact ne ⟨el,ew⟩
 | cons p r =>
  have:=e4 p r (by rw[<- el];simpa [ea] using e1.symm)
  have ht:tIn cs s=if rdN cs p>s.t then rdN cs p else s.t:=by unfold tIn;rw[ew,el]
  rw[ht] at this
  split at this<;>omega
theorem Jvm (w:Wf cs s):∀q∈(letM cs s).lr,(letM cs s).t<rdN cs q:=by
 obtain⟨a,e1,e2,e3,e4⟩:=Xc cs (tIn cs s) s.lr s.wa
 have ws:=w.let.srt
 show ∀q∈(pops cs (tIn cs s) s.lr s.wa).1,tIn cs s<rdN cs q
 have ws:((pops cs (tIn cs s) s.lr s.wa).1).Pairwise _:=ws
 cases e:(pops cs (tIn cs s) s.lr s.wa).1 with
 | nil=>simp
 | cons p r =>
  have:=e4 p r e
  rw[e] at ws
  intro q hq
  rcases Z7.mp hq with rfl|hq
  ·exact this
  ·have:=(Zbz.mp ws).1 q hq
   omega
theorem Jhq {s:Bs}(gt:∀q∈s.lr,s.t<rdN cs q)(l:s.ds.getD p 0<lnN cs p):0<JV rs cs s p/\s.ds.getD p 0+JV rs cs s p<=QI (hsN rs cs p) (s.ds.getD p 0) (lnN cs p):=by
 have:=Jyf (hs:=hsN rs cs p) l
 unfold JV
 split
 ·omega
 ·rename_i q r e
  have:=gt q (by rw[e];simp)
  split<;>omega
theorem Yn {α:Type}{l:List α}{i j:Nat}{x z:α}:(l.set i x).getD j z=if i=j/\j<l.length then x else l.getD j z:=by
 simp only[Zl,List.getElem?_set]
 by_cases e:i=j
 ·subst e
  by_cases l':i<l.length
  ·simp[l']
  ·simp[l',Zbk (ZcL l')]
 ·simp[e]
theorem Wf.do {rs:List RH}{cs:List Cm}{s:Bs}(w:Wf cs s){p:Nat}(hp:p∈s.wa){n:Int}(n0:0<n)(nl:s.ds.getD p 0+n<=lnN cs p):Wf cs (doM rs cs s p n):=by
 have lp:=w.mem p (Zi _ hp)
 have sub:(s.lr++(doM rs cs s p n).wa).Sublist (s.lr++s.wa):=by
  refine List.Sublist.append_left ?_ _
  show List.Sublist (if _ then _ else _) _
  split
  ·exact List.erase_sublist
  ·exact List.Sublist.refl _
 have nl':∀q∈s.lr,q≠p:=λ q hq e=>(Zci.mp w.nd).2.2 q hq p hp e
 have nw:s.wa.Nodup:=(Zci.mp w.nd).2.1
 have g:∀q,(doM rs cs s p n).ds.getD q 0=if p=q then s.ds.getD p 0+n else s.ds.getD q 0:=λ q=>by
  show(s.ds.set p _).getD q 0=_
  rw[Yn]
  by_cases e:p=q
  ·subst e;rw[if_pos ⟨rfl,by rw[w.ld];exact lp⟩,if_pos rfl]
  ·rw[if_neg λ z=>e z.1,if_neg e]
 refine⟨by show(s.ds.set _ _).length=_;rw[Zbt];exact w.ld,λ q hq=>w.mem q (sub.subset hq),w.nd.sublist sub,w.srt,λ q hq=>?_,λ q lq hq=>?_,λ q hq=>?_,λ q hq=>?_⟩
 ·have:=w.z q (sub.subset hq)
  rw[g]
  split
  ·rename_i e
   subst e
   refine⟨by omega,?_⟩
   rcases ZL.mp hq with hq|hq
   ·exact absurd rfl (nl' p hq)
   ·have hq:p∈if s.ds.getD p 0+n=lnN cs p then s.wa.erase p else s.wa:=hq
    split at hq
    ·exact absurd hq (List.Nodup.not_mem_erase nw)
    ·omega
  ·exact this
 ·rw[g]
  split
  ·rename_i e
   subst e
   have hq:p∉s.lr++if s.ds.getD p 0+n=lnN cs p then s.wa.erase p else s.wa:=hq
   split at hq
   ·assumption
   ·exact absurd (Zi _ hp) hq
  ·rename_i ne
   refine w.dn q lq λ z=>hq ?_
   show q∈s.lr++if s.ds.getD p 0+n=lnN cs p then s.wa.erase p else s.wa
   split
   ·rcases ZL.mp z with z|z
    ·exact Zah _ z
    ·exact Zi _ ((List.mem_erase_of_ne (ZI ne)).mpr z)
   ·exact z
 ·rw[g,if_neg (ZI (nl' q hq))]
  exact w.z0 q hq
 ·have:=w.rw q (by
   have hq:q∈if s.ds.getD p 0+n=lnN cs p then s.wa.erase p else s.wa:=hq
   split at hq
   ·exact List.mem_of_mem_erase hq
   ·exact hq)
  show _<=s.t+n
  omega
theorem Jml:∀{wa:List Nat},wa≠[]->∃p,Vq rs cs ds wa p
 | [],h=>absurd rfl h
 | [p],_=>⟨p,by simp,λ q hq=>by rw[Zv.mp hq];exact Yq _⟩
 | p::q::r,_=>by
  obtain⟨m,hm,lm⟩:=Jml (rs:=rs) (cs:=cs) (ds:=ds) (wa:=q::r) (by simp)
  cases c:ltL (keyN rs cs ds p) (keyN rs cs ds m) with
  | true =>
   refine⟨p,by simp,λ x hx=>?_⟩
   rcases Z7.mp hx with rfl|hx
   ·exact Yq _
   ·cases z:ltL (keyN rs cs ds x) (keyN rs cs ds p) with
    | false=>rfl
    | true=>exact absurd (Jhg z c) (by rw[lm x hx];exact Zt)
  | false =>
   refine⟨m,Zn _ hm,λ x hx=>?_⟩
   rcases Z7.mp hx with rfl|hx
   ·exact c
   ·exact lm x hx
def VE (rs:List RH)(cs:List Cm)(ds:List Int)(p:Nat):Nat:=((hsN rs cs p).filter λ a=>decide (ds.getD p 0<a.2.2)).length
def mea (rs:List RH)(cs:List Cm)(s:Bs):Nat:=(s.lr++s.wa).length+((ZT cs.length).map (VE rs cs s.ds)).sum+(s.lr.filter λ p=>decide (s.t<rdN cs p)).length
theorem Yk {α:Type}{f g:α->Bool}:∀{l:List α},(∀x∈l,f x=Zh->g x=Zh)->(l.filter f).length<=(l.filter g).length
 | [],_=>by simp
 | x::l,h=>by
  have ih:=Yk (l:=l) λ y hy=>h y (Zn _ hy)
  have:=h x (by simp)
  simp only[ZbP]
  split
  ·rename_i c
   rw[if_pos (this c)]
   simpa using ih
  ·split
   ·simp only[ZC];omega
   ·exact ih
theorem Jl7 {α:Type}{f g:α->Bool}{a:α}:∀{l:List α},a∈l->f a=Zk->g a=Zh->(∀x∈l,f x=Zh->g x=Zh)->(l.filter f).length<(l.filter g).length
 | x::l,ha,fa,ga,h=>by
  have le:=Yk (l:=l) λ y hy=>h y (Zn _ hy)
  have hx:=h x (by simp)
  rcases Z7.mp ha with rfl|ha
  ·simp only[ZbP,fa,ga,if_true,ZW,if_false,ZC];omega
  ·have ih:=Jl7 ha fa ga λ y hy=>h y (Zn _ hy)
   simp only[ZbP]
   split
   ·rename_i c
    rw[if_pos (hx c)]
    simpa using ih
   ·split
    ·simp only[ZC];omega
    ·exact ih
theorem Jnk {f g:Nat->Nat}:∀{l:List Nat},(∀x∈l,f x<=g x)->(l.map f).sum<=(l.map g).sum
 | [],_=>Zq _
 | x::l,h=>by
  have:=h x (by simp)
  have:=Jnk (l:=l) λ y hy=>h y (Zn _ hy)
  simp only[Z6,Zd0]
  omega
theorem Jvv {f g:Nat->Nat}{a:Nat}:∀{l:List Nat},a∈l->f a<g a->(∀x∈l,f x<=g x)->(l.map f).sum<(l.map g).sum
 | x::l,ha,la,h=>by
  have hx:=h x (by simp)
  have le:=Jnk (l:=l) λ y hy=>h y (Zn _ hy)
  simp only[Z6,Zd0]
  rcases Z7.mp ha with rfl|ha
  ·omega
  ·have:=Jvv ha la λ y hy=>h y (Zn _ hy)
   omega
theorem Jxl (rs:List RH)(cs:List Cm)(s:Bs):mea rs cs (letM cs s)<=mea rs cs s:=by
 obtain⟨a,e1,e2,e3,e4⟩:=Xc cs (tIn cs s) s.lr s.wa
 have pm:=(Jhk cs (tIn cs s) s.lr s.wa).length_eq
 have tg:=Jrx cs s
 show((pops cs (tIn cs s) s.lr s.wa).1++(pops cs (tIn cs s) s.lr s.wa).2).length+_+((pops cs (tIn cs s) s.lr s.wa).1.filter λ p=>decide (tIn cs s<rdN cs p)).length<=_
 rw[pm]
 unfold mea
 have h1:=Yk (f:=λ p=>decide (tIn cs s<rdN cs p)) (g:=λ p=>decide (s.t<rdN cs p)) (l:=(pops cs (tIn cs s) s.lr s.wa).1) λ x _ c=>decide_eq_true (ZbW tg (of_decide_eq_true c))
 have h2:(s.lr.filter λ p=>decide (s.t<rdN cs p)).length=(a.filter λ p=>decide (s.t<rdN cs p)).length+((pops cs (tIn cs s) s.lr s.wa).1.filter λ p=>decide (s.t<rdN cs p)).length:=by
  conv=>lhs;rw[e1]
  rw[List.filter_append,Zx]
 have h3:((ZT cs.length).map (VE rs cs (letM cs s).ds)).sum=((ZT cs.length).map (VE rs cs s.ds)).sum:=rfl
 omega
theorem J0b (w:Wf cs s)(gt:∀q∈s.lr,s.t<rdN cs q){p:Nat}(hp:p∈s.wa):mea rs cs (doM rs cs s p (JV rs cs s p))<mea rs cs s:=by
 have lp:=w.mem p (Zi _ hp)
 obtain⟨n0,nl⟩:=Jhq (rs:=rs) gt (w.z p (Zi _ hp)).2
 have sl:=Jru (hsN rs cs p) (s.ds.getD p 0) (lnN cs p)
 have hn:∀n,n=JV rs cs s p->0<n/\s.ds.getD p 0+n<=lnN cs p:=λ n e=>by rw[e];exact⟨n0,by omega⟩
 have cases3:(s.ds.getD p 0+JV rs cs s p=lnN cs p)∨(∃a∈hsN rs cs p,s.ds.getD p 0<a.2.2/\s.ds.getD p 0+JV rs cs s p=a.2.2)∨∃q∈s.lr,s.t+JV rs cs s p=rdN cs q:=by
  unfold JV
  have:=Jno (hsN rs cs p) (s.ds.getD p 0) (lnN cs p)
  split
  ·rcases this with e|⟨a,ha,l,e⟩
   ·exact .inl (by omega)
   ·exact .inr (.inl ⟨a,ha,l,by omega⟩)
  ·rename_i q r e
   split
   ·exact .inr (.inr ⟨q,by rw[e];simp,by omega⟩)
   ·rcases this with e|⟨a,ha,l,e⟩
    ·exact .inl (by omega)
    ·exact .inr (.inl ⟨a,ha,l,by omega⟩)
 generalize JV rs cs s p=n at n0 nl cases3
 have gd:∀q,(s.ds.set p (s.ds.getD p 0+n)).getD q 0=if p=q then s.ds.getD p 0+n else s.ds.getD q 0:=λ q=>by
  rw[Yn]
  by_cases e:p=q
  ·subst e;rw[if_pos ⟨rfl,by rw[w.ld];exact lp⟩,if_pos rfl]
  ·rw[if_neg λ z=>e z.1,if_neg e]
 have m2:∀q∈ZT cs.length,VE rs cs (s.ds.set p (s.ds.getD p 0+n)) q<=VE rs cs s.ds q:=λ q _=>Yk λ x _ c=>by
  have c:=of_decide_eq_true c
  rw[gd] at c
  refine decide_eq_true ?_
  split at c
  ·rename_i e;subst e;omega
  ·exact c
 have m3:∀x∈s.lr,decide (s.t+n<rdN cs x)=Zh->decide (s.t<rdN cs x)=Zh:=λ x _ c=>decide_eq_true (by have:=of_decide_eq_true c;omega)
 have l2:=Jnk m2
 have l3:=Yk m3
 have lw:(s.lr++if s.ds.getD p 0+n=lnN cs p then s.wa.erase p else s.wa).length<=(s.lr++s.wa).length:=by
  rw[Zx,Zx]
  split
  ·have:=Zd2 hp
   omega
  ·omega
 show(s.lr++if s.ds.getD p 0+n=lnN cs p then s.wa.erase p else s.wa).length+((ZT cs.length).map (VE rs cs (s.ds.set p (s.ds.getD p 0+n)))).sum+(s.lr.filter λ x=>decide (s.t+n<rdN cs x)).length<(s.lr++s.wa).length+((ZT cs.length).map (VE rs cs s.ds)).sum+(s.lr.filter λ x=>decide (s.t<rdN cs x)).length
 rcases cases3 with e|⟨a,ha,la,e⟩|⟨q,hq,e⟩
 ·rw[if_pos e,Zx,Zx]
  have:=Zd2 hp
  have:=List.length_pos_of_mem hp
  omega
 ·have:=Jvv (Za3.mpr lp) (Jl7 (a:=a) (f:=λ a=>decide ((s.ds.set p (s.ds.getD p 0+n)).getD p 0<a.2.2)) (g:=λ a=>decide (s.ds.getD p 0<a.2.2)) ha (decide_eq_false (by rw[gd,if_pos rfl];omega)) (decide_eq_true la) λ x _ c=>by
   have c:=of_decide_eq_true c
   rw[gd,if_pos rfl] at c
   exact decide_eq_true (by omega)) m2
  omega
 ·have:=Jl7 (a:=q) (f:=λ x=>decide (s.t+n<rdN cs x)) (g:=λ x=>decide (s.t<rdN cs x)) hq (decide_eq_false (by omega)) (decide_eq_true (gt q hq)) m3
  omega
section
seal L4.run
abbrev nI (n:Nat):IV:=.int (n:Int)
abbrev tupS (a:Nat×Int×Int):IV:=.tup [.int (a.1:Int),.int a.2.1,.int a.2.2]
def bfs (O R D L W:Nat)(t:Int)(S:Nat):List (Str×IV):=[("order",.ref O),("row",.ref R),("dones",.ref D),("later",.ref L),("waiting",.ref W),("turn",.int t),("stretches",.ref S)]
section
variable {O R D L W S:Nat}{t u:Int}
theorem bf0:(bfs O R D L W t S).lookup ("order":Str)=Za (.ref O):=by kernel_rfl
theorem bf1:(bfs O R D L W t S).lookup ("row":Str)=Za (.ref R):=by kernel_rfl
theorem bf2:(bfs O R D L W t S).lookup ("dones":Str)=Za (.ref D):=by kernel_rfl
theorem bf3:(bfs O R D L W t S).lookup ("later":Str)=Za (.ref L):=by kernel_rfl
theorem bf4:(bfs O R D L W t S).lookup ("waiting":Str)=Za (.ref W):=by kernel_rfl
theorem bf5:(bfs O R D L W t S).lookup ("turn":Str)=Za (.int t):=by kernel_rfl
theorem bf6:(bfs O R D L W t S).lookup ("stretches":Str)=Za (.ref S):=by kernel_rfl
theorem bn0:(bfs O R D L W t S).lookup ("next_ready":Str)=Zc:=by kernel_rfl
theorem bn1:(bfs O R D L W t S).lookup ("let_in":Str)=Zc:=by kernel_rfl
theorem bn2:(bfs O R D L W t S).lookup ("turns_for":Str)=Zc:=by kernel_rfl
theorem bn3:(bfs O R D L W t S).lookup ("tell":Str)=Zc:=by kernel_rfl
theorem bn4:(bfs O R D L W t S).lookup ("go_on":Str)=Zc:=by kernel_rfl
theorem bft:putI "turn" (.int u) (bfs O R D L W t S)=bfs O R D L W u S:=by kernel_rfl
end
structure Bg (h0:IH)(rs:List RH)(cs:List Cm)(O R:Nat):Prop where
 o:IsOr h0 O rs
 r:h0[R]?=Za (.lst (cs.map tupC))
 c:∀c∈cs,c.at_<rs.length
 l6:∀r∈rs,r.2.length<=6
 p1:h0[0]?=Za (.tab "Order.pick")
 n:cs.length<=200
structure Bn (h0 h:IH)(B O R D L W S:Nat)(s:Bs):Prop where
 x:Ex h0 h
 ap:h0.length<=B/\B<D/\D<L/\L<W/\W<S
 b:h[B]?=Za (.ins "Bench" (bfs O R D L W s.t S))
 d:h[D]?=Za (.lst (s.ds.map .int))
 l:h[L]?=Za (.lst (s.lr.reverse.map nI))
 w:h[W]?=Za (.lst (s.wa.map nI))
 s:h[S]?=Za (.lst (s.sr.reverse.map tupS))
theorem Vw {h0 h:IH}{i:Nat}{o:IX}(x:Ex h0 h)(l:h0.length<=i):Ex h0 (h.set i o):=by
 obtain⟨g,rfl⟩:=x
 exact⟨g.set (i-h0.length) o,by rw[ZcH _ _ l]⟩
theorem J9 {h:IH}{i j:Nat}{o o':IX}(e:h[j]?=Za o)(n:i≠j):(h.set i o')[j]?=Za o:=by rw[ZG n];exact e
theorem QH {h:IH}{i:Nat}{o o':IX}(e:h[i]?=Za o):(h.set i o')[i]?=Za o':=ZK (JB e)
section
variable {h0 h h':IH}{B O R D L W S:Nat}{s:Bs}
theorem Bn.ex (b:Bn h0 h B O R D L W S s)(x:Ex h h'):Bn h0 h' B O R D L W S s:=⟨b.x.trans x,b.ap,x.get b.b,x.get b.d,x.get b.l,x.get b.w,x.get b.s⟩
theorem Bn.setT (b:Bn h0 h B O R D L W S s)(u:Int):Bn h0 (h.set B (.ins "Bench" (bfs O R D L W u S))) B O R D L W S ⟨s.ds,s.lr,s.wa,u,s.sr⟩ :=
 have ap:=b.ap
 ⟨Vw b.x (by omega),ap,QH b.b,J9 b.d (by omega),J9 b.l (by omega),J9 b.w (by omega),J9 b.s (by omega)⟩
theorem Bn.setD (b:Bn h0 h B O R D L W S s)(ds:List Int):Bn h0 (h.set D (.lst (ds.map .int))) B O R D L W S ⟨ds,s.lr,s.wa,s.t,s.sr⟩ :=
 have ap:=b.ap
 ⟨Vw b.x (by omega),ap,J9 b.b (by omega),QH b.d,J9 b.l (by omega),J9 b.w (by omega),J9 b.s (by omega)⟩
theorem Bn.setL (b:Bn h0 h B O R D L W S s)(lr:List Nat):Bn h0 (h.set L (.lst (lr.reverse.map nI))) B O R D L W S ⟨s.ds,lr,s.wa,s.t,s.sr⟩ :=
 have ap:=b.ap
 ⟨Vw b.x (by omega),ap,J9 b.b (by omega),J9 b.d (by omega),QH b.l,J9 b.w (by omega),J9 b.s (by omega)⟩
theorem Bn.setW (b:Bn h0 h B O R D L W S s)(wa:List Nat):Bn h0 (h.set W (.lst (wa.map nI))) B O R D L W S ⟨s.ds,s.lr,wa,s.t,s.sr⟩ :=
 have ap:=b.ap
 ⟨Vw b.x (by omega),ap,J9 b.b (by omega),J9 b.d (by omega),J9 b.l (by omega),QH b.w,J9 b.s (by omega)⟩
theorem Bn.setS (b:Bn h0 h B O R D L W S s)(sr:List (Nat×Int×Int)):Bn h0 (h.set S (.lst (sr.reverse.map tupS))) B O R D L W S ⟨s.ds,s.lr,s.wa,s.t,sr⟩ :=
 have ap:=b.ap
 ⟨Vw b.x (by omega),ap,J9 b.b (by omega),J9 b.d (by omega),J9 b.l (by omega),J9 b.w (by omega),QH b.s⟩
end
theorem Jpr {α:Type}{f:α->IV}{p:α}{lr:List α}:atI ((p::lr).reverse.map f) (-1)=Za (f p):=by
 have e:(-1+((lr.length:Int)+1)).toNat=lr.length:=by omega
 have l:(1:Int)<=(lr.length:Int)+1:=by omega
 simp[atI,ixN,e,l]
theorem Vv {cs:List Cm}{p:Nat}(lp:p<cs.length):atI (cs.map tupC) (p:Int)=Za (tupC (cs.getD p cd)):=JI (by rw[Z1,Zl,Zb lp];rfl)
theorem Jwj {ds:List Int}{p:Nat}(lp:p<ds.length):atI (ds.map IV.int) (p:Int)=Za (.int (ds.getD p 0)):=JI (by rw[Z1,Zl,Zb lp];rfl)
section
variable {k:Nat}{h0 h:IH}{rs:List RH}{cs:List Cm}{B O R D L W S:Nat}{s:Bs}{P:IV->IH->Prop}
theorem J2l (g:Bg h0 rs cs O R)(b:Bn h0 h B O R D L W S s){p:Nat}{lr:List Nat}(e:s.lr=p::lr)(lp:p<cs.length):Jae (k+2) [.ref B] h=.ok (.int (rdN cs p)) h:=by
 have bl:=b.l
 rw[e] at bl
 refine Ju ?_
 rw[Jdy]
 exact xfin (xret (Je (JY (arg1 (ixlE (fldE rfl b.b bf1) (ixlE (fldE rfl b.b bf3) rfl bl Jpr) (b.x.get g.r) (Vv lp))) Jnd) ⟨rfl,rfl⟩))
theorem nrE {Pn:List (Option IV)}(g:Bg h0 rs cs O R)(b:Bn h0 h B O R D L W S s){p:Nat}{lr:List Nat}(e:s.lr=p::lr)(lp:p<cs.length):Jo (pg (k+2)) "next_ready" 0 (Ja 0) Jd (Za (.ref B)::Pn) h=.ok (.int (rdN cs p)) h :=
 dotE rfl b.b bn0 (Jdx _) rfl (J2l g b e lp)
theorem Jrf {cs:List Cm}{t:Int}{p:Nat}{lr wa:List Nat}:pops cs t (p::lr) wa=if rdN cs p<=t then pops cs t lr (wa++[p]) else(p::lr,wa):=rfl
theorem Jvn (g:Bg h0 rs cs O R)(ml:∀p∈s.lr,p<cs.length)(hl:s.lr.length+s.wa.length<=1000)(b:Bn h0 h B O R D L W S s) :
  WS (Jcb (k+2) [Za (.ref B)] h) (λ _ h'=>Bn h0 h' B O R D L W S ⟨s.ds,(pops cs s.t s.lr s.wa).1,(pops cs s.t s.lr s.wa).2,s.t,s.sr⟩) P:=by
 have hb:=J2
 refine Joc (λ m σ h'=>∃lr wa,σ=[Za (.ref B)]/\Bn h0 h' B O R D L W S ⟨s.ds,lr,wa,s.t,s.sr⟩/\lr.length=m/\lr.length+wa.length<=1000/\(∀p∈lr,p<cs.length)/\pops cs s.t lr wa=pops cs s.t s.lr s.wa) ?_ (show s.lr.length<1000000 by omega) ⟨s.lr,s.wa,rfl,b,rfl,hl,ml,rfl⟩
 rintro m _ h1 ⟨lr,wa,rfl,b,lm,l2,ml,ep⟩
 refine J1p (Je (gtE (lenE (fldE rfl b.b bf3) b.l) rfl) (xdec (λ c=>?_) λ c=>?_))
 ·cases lr with
  | nil=>exact absurd c (by simp)
  | cons p lr =>
   rw[Jrf] at ep
   refine Je (leE (nrE g b rfl (ml p (by simp))) (fldE rfl b.b bf5)) (xdec (λ c=>?_) λ c=>?_)
   ·refine⟨lr.length,by simpa using lm.symm,?_⟩
    refine Q7 (Va (fldE rfl b.b bf4) b.w VU (xb (Va (fldE rfl b.b bf3) b.l Jpu (Je rfl (xpop (y:=nI p) b.l (by simp) ?_)))))
    have e:(((p::lr).reverse.map nI).dropLast)=lr.reverse.map nI:=by simp
    rw[e]
    have b1:=b.setL lr
    refine xb (Je rfl (Je rfl (xapp b1.w (by simp at l2 ⊢;omega) ⟨lr,wa++[p],rfl,?_,rfl,by simp at l2 ⊢;omega,λ q hq=>ml q (Zn _ hq),by rw[<- ep,if_pos c]⟩)))
    have:=b1.setW (wa++[p])
    rw[Zbi] at this
    exact this
   ·rw[if_neg c] at ep
    rw[<- ep]
    exact b
 ·cases lr with
  | nil=>exact⟨(λ z=>by cases z),λ _=>by rw[<- ep];exact b⟩
  | cons p lr=>exact absurd (by simp) c
theorem J2k (g:Bg h0 rs cs O R)(ml:∀p∈s.lr,p<cs.length)(hl:s.lr.length+s.wa.length<=1000)(ne:¬(s.lr=[]/\s.wa=[]))(b:Bn h0 h B O R D L W S s) :
  WR (Jbh (k+3) [.ref B] h) λ v h'=>v=.non/\Bn h0 h' B O R D L W S (letM cs s):=by
 rw[Jg8]
 refine xfin (xseq (xifd (eqE (lenE (fldE rfl b.b bf4) b.w) rfl) (λ c=>?_) λ c=>?_))
 ·have ew:s.wa=[]:=Zc4.mp (by simpa using c)
  cases el:s.lr with
  | nil=>exact absurd ⟨el,ew⟩ ne
  | cons p lr =>
   have et:tIn cs s=if rdN cs p>s.t then rdN cs p else s.t:=by unfold tIn;rw[ew,el]
   refine Vo (maxE (fldE rfl b.b bf5) (nrE g b el (ml p (by rw[el];simp)))) rfl b.b (by show(7:Nat)<1000;decide) ?_
   rw[bft]
   have b1:=b.setT (if rdN cs p>s.t then rdN cs p else s.t)
   refine WS.mono (Jvn (s:=⟨s.ds,s.lr,s.wa,if rdN cs p>s.t then rdN cs p else s.t,s.sr⟩) g ml hl b1) (λ _ h' q=>⟨rfl,?_⟩) λ _ _ z=>z
   unfold letM
   rw[et]
   exact q
 ·have et:tIn cs s=s.t:=by
   unfold tIn
   split
   ·rename_i e _
    rw[e] at c
    exact absurd rfl c
   ·rfl
  refine xnil (WS.mono (Jvn g ml hl b) (λ _ h' q=>⟨rfl,?_⟩) λ _ _ z=>z)
  unfold letM
  rw[et]
  exact q
end
end
section
seal L4.run
def enP (d:Int):IV->Bool
 | .tup [_,_,.int e]=>decide (d<e)
 | _=>Zk
def enF:IV->IV
 | .tup [_,_,e]=>e
 | _=>.non
theorem Jy8 (hs:List Hd)(d:Int):((hs.map tupH).filter (enP d)).map enF=((hs.filter λ a=>decide (d<a.2.2)).map (·.2.2)).map .int:=by
 induction hs with
 | nil=>rfl
 | cons a hs ih =>
  simp only[Z6,ZbP]
  rw[show enP d (tupH a)=decide (d<a.2.2) from rfl]
  split
  ·simp only[Z6,ih];rfl
  ·exact ih
section
variable {k:Nat}{h0 h:IH}{rs:List RH}{cs:List Cm}{B O R D L W S:Nat}{s:Bs}{P:IV->IH->Prop}
theorem J2m {gap ln due late d len:Int}{hs:List Hd}(hw:h[w]?=Za (.ins "Work" (wfs name gap ln due late (hs.map tupH))))(l6:hs.length<=6) :
  WR (Jdt (k+2) [.ref w,.int d,.int len] h) λ v h'=>v=.int (QI hs d len)/\Ex h h':=by
 have hb:=J2
 rw[Jk0]
 have x1:Ex h (h++[.lst [.int len]]):=.one _ _
 refine xfin (xret (xb (xb (xb (xlst (Je (arg1 rfl) ⟨by simp;omega,xb ?_⟩))))))
 refine WR.mono (YD (h:=h++[.lst [.int len]]++[.lst (hs.map tupH)]) (xs:=hs.map tupH) (chk:=λ h'=>h'[(h++[IX.lst [IV.int len]]).length]?=Za (.lst (hs.map tupH))) (p:=enP d) (f:=enF) ?_ (by rw[Zj];omega) (λ h2 q=>q _ _ Jk) ?_ ?_) ?_
 ·rw[JW]
  exact Je (dotE rfl (x1.get hw) flh (Jbg _) rfl (Jfb (x1.get hw))) ((JN _).mpr ⟨_,Jk,rfl,rfl,rfl⟩)
 ·intro v hv h2 q
  obtain⟨a,_,rfl⟩:=Z3.mp hv
  exact Je (gtE (ixtE rfl rfl Qm) rfl) ⟨rfl,.refl _⟩
 ·intro v hv _ h2 q
  obtain⟨a,_,rfl⟩:=Z3.mp hv
  exact Je (ixtE rfl rfl Qm) ⟨rfl,.refl _⟩
 ·rintro _ _ ⟨rfl,g,rfl⟩
  rw[Jy8]
  have lf:=Zbl (λ a:Hd=>decide (d<a.2.2)) hs
  have x2:Ex (h++[.lst [.int len]]) (h++[.lst [.int len]]++[.lst (hs.map tupH)]++.lst (((hs.filter λ a=>decide (d<a.2.2)).map (·.2.2)).map .int)::g):=(Ex.one _ _).trans (.cons _ _ _)
  refine(Jj2 ..).mpr ⟨_,x2.get Jk,_,J4,by simp;omega,?_⟩
  refine xb (Je rfl (Je rfl ?_))
  rw[Xj,show[IV.int len]++((hs.filter λ a=>decide (d<a.2.2)).map (·.2.2)).map .int=(Qk hs d len).map .int from rfl,Jsg Jk (by simp[Qk])]
  exact⟨rfl,(x1.trans x2).trans (.one _ _)⟩
theorem J3i (g:Bg h0 rs cs O R)(ml:∀p∈s.lr,p<cs.length)(b:Bn h0 h B O R D L W S s)(lp:p<cs.length)(ld:s.ds.length=cs.length) :
  WR (Jah (k+3) [.ref B,nI p] h) λ v h'=>v=.int (JV rs cs s p)/\Ex h h':=by
 obtain⟨Du,⟨vs,gD,w⟩,fd⟩:=Jrd (g.o.kp b.x.kp)
 have ca:(cs.getD p cd).at_<rs.length:=g.c _ (by rw[Zl,Zb lp];exact Z5 lp)
 have l6:=g.l6 _ (Z5 ca)
 obtain⟨j,ej,gj⟩:=w.get (Zb ca)
 have av:atI vs ((cs.getD p cd).at_:Int)=Za (.ref j):=JI ej
 have hh:hsN rs cs p=(rs[(cs.getD p cd).at_]).2:=by unfold hsN;rw[Ym ca]
 rw[<- hh] at l6
 rw[Je3]
 refine xfin (xseq (xset (Je (ixlE (fldE rfl b.b bf1) rfl (b.x.get g.r) (Vv lp)) (xseq (xset (Je (ixlE (fldE rfl b.b bf2) rfl b.d (Jwj (by omega))) ?_))))))
 refine xseq (xset (xb (xb (xb (Je (dotE (fd _ _ (fldE rfl b.b bf0)) gD dlw (Jc0 _) (arg1 (ixtE rfl rfl JP)) (Jg6 gD av)) (xb (Je (arg2 rfl (ixtE rfl rfl Qy)) (Je rfl ?_))))))))
 have gj:h[j]?=Za (.ins "Work" (wfs _ _ _ _ _ ((rs[(cs.getD p cd).at_]).2.map tupH))):=gj
 rw[<- hh] at gj
 refine WR.mono (J2m (k:=k) gj l6) ?_
 rintro _ h1 ⟨rfl,x1⟩
 have b1:=b.ex x1
 refine xb (Je rfl (Je rfl (xseq (xifd (gtE (lenE (fldE rfl b1.b bf3) b1.l) rfl) (λ c=>?_) λ c=>?_))))
 ·cases el:s.lr with
  | nil=>rw[el] at c;exact absurd c (by simp)
  | cons q lr =>
   refine xset (Je (minE rfl (subE (nrE g b1 el (ml q (by rw[el];simp))) (fldE rfl b1.b bf5))) (xret (Je rfl ⟨?_,x1⟩)))
   unfold JV
   rw[el]
   rfl
 ·refine xnil (xret (Je rfl ⟨?_,x1⟩))
  have el:s.lr=[]:=by
   cases el:s.lr with
   | nil=>rfl
   | cons q lr=>rw[el] at c;exact absurd (by simp) c
  unfold JV
  rw[el]
  rfl
theorem J3h (b:Bn h0 h B O R D L W S s)(sl:s.sr.length<100000):WR (Jcg (k+1) [.ref B,nI p,.int u] h) λ v h'=>v=.non/\Bn h0 h' B O R D L W S ⟨s.ds,s.lr,s.wa,s.t,Vm p s.t u s.sr⟩:=by
 have hb:=J2
 have fin:∀{h1:IH}{bg:Int}{r:List (Nat×Int×Int)},Bn h0 h1 B O R D L W S ⟨s.ds,s.lr,s.wa,s.t,r⟩->r.length<=s.sr.length->Vm p s.t u s.sr=(p,bg,u)::r ->
   WS (Jde k [Za (.ref B),Za (nI p),Za (.int u),Za (.int bg)] h1) (λ _ h'=>IV.non=.non/\Bn h0 h' B O R D L W S ⟨s.ds,s.lr,s.wa,s.t,Vm p s.t u s.sr⟩) λ v h'=>v=.non/\Bn h0 h' B O R D L W S ⟨s.ds,s.lr,s.wa,s.t,Vm p s.t u s.sr⟩:=by
  intro h1 bg r b1 lr et
  refine Q7 (Va (fldE rfl b1.b bf6) b1.s VU (xb (xtup (xb (Je rfl (xb (Je (arg2 rfl rfl) (Je rfl ⟨by simp;omega,xb (Je rfl (Je rfl (xapp b1.s (by simp;omega) ⟨rfl,?_⟩)))⟩))))))))
  have:=b1.setS ((p,bg,u)::r)
  rw[Zbr,Zbi] at this
  rw[et]
  exact this
 rw[Jja]
 refine xfin (xseq (xset (Je (fldE rfl b.b bf5) (xseq (xif (J1p (Je (gtE (lenE (fldE rfl b.b bf6) b.s) rfl) (xdec (λ c=>?_) λ c=>?_))))))))
 ·cases es:s.sr with
  | nil=>rw[es] at c;exact absurd c (by simp)
  | cons a r =>
   have bs:=b.s
   rw[es] at bs
   refine Je (eqE (ixtE (ixlE (fldE rfl b.b bf6) rfl bs Jpr) rfl JP) rfl) (xdec (λ c=>?_) λ c=>?_)
   ·refine xset (xb (Va (fldE rfl b.b bf6) bs Jpu (Je rfl (xpop (y:=tupS a) bs (by simp) (xb (Je rfl (xixt JX ?_)))))))
    have e:((a::r).reverse.map tupS).dropLast=r.reverse.map tupS:=by simp
    rw[e]
    rw[<- es]
    refine fin (r:=r) (b.setS r) (by rw[es];simp) ?_
    rw[es]
    exact if_pos (by omega)
   ·refine xnil ?_
    rw[<- es]
    refine fin (r:=s.sr) b (Zq _) ?_
    rw[es]
    exact if_neg λ z=>c (by rw[z])
 ·refine⟨(λ z=>by cases z),λ _=>xnil (fin (r:=s.sr) b (Zq _) ?_)⟩
  cases es:s.sr with
  | nil=>rfl
  | cons a r=>rw[es] at c;exact absurd (by simp) c
theorem Jq6 {α β:Type}{f:α->β}:∀(l:List α)(j:Nat),(l.map f).eraseIdx j=(l.eraseIdx j).map f
 | [],_=>rfl
 | _::_,0=>rfl
 | a::l,j+1=>congrArg (f a:: ·) (Jq6 l j)
theorem Jqd {wa:List Nat}{p j:Nat}(e:(wa.map λ n:Nat=>(n:Int)).findIdx? (· ==(p:Int))=Za j):wa.eraseIdx j=wa.erase p:=by
 rw[List.findIdx?_map] at e
 have e:wa.findIdx? (· ==p)=Za j:=by
  rw[<- e]
  congr 1
  funext x
  show(x==p)=((x:Int)==(p:Int))
  rw[Zcu,beq_iff_eq,beq_iff_eq]
  omega
 rw[List.erase_eq_eraseIdx,show List.idxOf? p wa=Za j from e]
theorem J16 (g:Bg h0 rs cs O R)(w:Wf cs s)(ne:¬(s.lr=[]/\s.wa=[]))(sl:s.sr.length<100000)(b:Bn h0 h B O R D L W S s):WR (Jbp (k+6) [.ref B] h) λ v h'=>v=.non/\Bn h0 h' B O R D L W S (Q5 rs cs s):=by
 have ll:(s.lr++s.wa).length<=cs.length:=by
  have:=w.nd.length_le_of_subset (l₂:=ZT cs.length) λ p hp=>Za3.mpr (w.mem p hp)
  rwa [Zb9] at this
 rw[Zx] at ll
 have cn:=g.n
 have w1:=w.let
 have n1:=Jq2 (cs:=cs) ne
 rw[Jh1]
 refine xfin (xseq (Q7 (XT rfl b.b bn1 (Jg3 _) (Je rfl (WR.mono (J2k (k:=k+2) g (λ p hp=>w.mem p (Zah _ hp)) (by omega) ne b) ?_)))))
 rintro _ h1 ⟨rfl,b1⟩
 have o1:=g.o.kp b1.x.kp
 unfold Q5
 have hsl:(letM cs s).sr.length<100000:=sl
 generalize letM cs s=s1 at *
 refine xseq (xset (Jod o1 (fldE rfl b1.b bf0) (by rw[show ∀(a b c:E1)(σ:ISt),Jb a (Jb b (Jb c Jd)) σ h1=(a σ h1).bind λ x h1=>((Jb b (Jb c Jd)) σ h1).bind λ xs h2=>.ok (x::xs) h2 from λ _ _ _ _=>rfl,fldE rfl b1.b bf1];exact congrArg (λ r=>Res.bind r _) (arg2 (fldE rfl b1.b bf4) (fldE rfl b1.b bf2))) (WR.mono (Jxx (k:=k) (b1.x.get g.p1) o1 g.l6 g.c (b1.x.get g.r) b1.w b1.d w1.ld n1 λ p hp=>w1.mem p (Zi _ hp)) ?_)))
 rintro _ h2 ⟨p,hp,rfl,lm,x2⟩
 have ep:=Vq.eq ⟨hp,lm⟩
 have lp:=w1.mem p (Zi _ hp)
 have ld:=w1.ld
 have b2:=b1.ex x2
 refine xseq (xset (XT rfl b2.b bn2 (Je1 _) (Je (arg1 rfl) (WR.mono (J3i (k:=k+2) g (λ q hq=>w1.mem q (Zah _ hq)) b2 lp ld) ?_))))
 rintro _ h3 ⟨rfl,x3⟩
 have b3:=b2.ex x3
 unfold goM
 rw[ep]
 generalize JV rs cs s1 p=n
 refine xseq (Q7 (XT rfl b3.b bn3 (Ji7 _) (Je (arg2 rfl (addE (fldE rfl b3.b bf5) rfl)) (WR.mono (J3h (k:=k+4) b3 hsl) ?_))))
 rintro _ h4 ⟨rfl,b4⟩
 refine xseq (J3s rfl b4.b bf5 rfl b4.b (by show(7:Nat)<1000;decide) ?_)
 rw[bft]
 have b5:Bn h0 _ B O R D L W S ⟨s1.ds,s1.lr,s1.wa,s1.t+n,Vm p s1.t (s1.t+n) s1.sr⟩:=b4.setT (s1.t+n)
 refine xseq (J3t (fldE rfl b5.b bf2) rfl b5.d (Jwj (by show p<s1.ds.length;omega)) (by omega) rfl b5.d (j:=p) (by rw[Zj];simp[ixN];omega) ?_)
 have b6:Bn h0 _ B O R D L W S ⟨s1.ds.set p (s1.ds.getD p 0+n),s1.lr,s1.wa,s1.t+n,Vm p s1.t (s1.t+n) s1.sr⟩:=b5.setD (s1.ds.set p (s1.ds.getD p 0+n))
 rw[<- List.map_set]
 refine xifd (eqE (ixlE (fldE rfl b6.b bf2) rfl b6.d (Jwj (by rw[Zbt];omega))) (ixtE (ixlE (fldE rfl b6.b bf1) rfl (b6.x.get g.r) (Vv lp)) rfl Qy)) (λ c=>?_) λ c=>?_
 ·rw[Yn,if_pos ⟨rfl,by omega⟩] at c
  have eN:s1.wa.map nI=(s1.wa.map λ n:Nat=>(n:Int)).map .int:=by rw[ZaD];rfl
  have gw:=b6.w
  obtain⟨j,hj⟩:∃j,(s1.wa.map λ n:Nat=>(n:Int)).findIdx? (· ==(p:Int))=Za j:=by
   cases z:(s1.wa.map λ n:Nat=>(n:Int)).findIdx? (· ==(p:Int)) with
   | none =>
    have:=Zb1.mp z p (Z3.mpr ⟨p,hp,rfl⟩)
    simp at this
   | some j=>exact⟨j,rfl⟩
  refine Q7 (Va (fldE rfl b6.b bf4) gw Jpv (Je (arg1 rfl) (xrem (ns:=s1.wa.map λ n:Nat=>(n:Int)) (by rw[<- eN];exact gw) hj ⟨rfl,?_⟩)))
  have b7:=b6.setW (s1.wa.erase p)
  unfold doM
  rw[if_pos (show _=lnN cs p from c),<-eN,Jq6,Jqd hj]
  exact b7
 ·rw[Yn,if_pos ⟨rfl,by omega⟩] at c
  refine xnil ⟨rfl,?_⟩
  unfold doM
  rw[if_neg (show ¬_=lnN cs p from c)]
  exact b6
end
end
section
seal L4.run
section
variable {O R D L W S:Nat}
theorem bp0:putI "order" (.ref O) ([]:List (Str×IV))=(bfs O 0 0 0 0 0 0).take 1:=by kernel_rfl
theorem bp1:putI "row" (.ref R) ((bfs O 0 0 0 0 0 0).take 1)=(bfs O R 0 0 0 0 0).take 2:=by kernel_rfl
theorem bp2:putI "dones" (.ref D) ((bfs O R 0 0 0 0 0).take 2)=(bfs O R D 0 0 0 0).take 3:=by kernel_rfl
theorem bp3:putI "later" (.ref L) ((bfs O R D 0 0 0 0).take 3)=(bfs O R D L 0 0 0).take 4:=by kernel_rfl
theorem bp4:putI "waiting" (.ref W) ((bfs O R D L 0 0 0).take 4)=(bfs O R D L W 0 0).take 5:=by kernel_rfl
theorem bp5:putI "turn" (.int 0) ((bfs O R D L W 0 0).take 5)=(bfs O R D L W 0 0).take 6:=by kernel_rfl
theorem bp6:putI "stretches" (.ref S) ((bfs O R D L W 0 0).take 6)=bfs O R D L W 0 S:=by kernel_rfl
end
theorem Jqx:∀{ys:List IV}{ks:List Int},(∀y∈ys,mk y h=.ok (.int (kf y)) h)->QD mk ys ks h=.ok (ks++ys.map kf) h
 | [],ks,_=>by simp[QD]
 | y::ys,ks,q=>by
  unfold QD
  rw[q y (by simp)]
  show QD mk ys (ks++[kf y]) h=_
  rw[Jqx λ z hz=>q z (Zn _ hz)]
  simp
theorem Jvo:∀p∈lr0 cs,p<cs.length:=λ p hp=>by
 obtain⟨i,hi,rfl⟩:=Z3.mp hp
 have:=Yx _ i hi
 omega
theorem Jz7 (cs:List Cm):(ordK (cs.map rdC).reverse cs.length).map (λ i=>(rngI 0 (cs.length:Int)).reverse.getD i .non)=(lr0 cs).map nI:=by
 unfold lr0
 rw[ZaD]
 refine List.map_congr_left λ i hi=>?_
 have li:=Yx _ i hi
 rw[XB]
 have l2:i<(((ZT cs.length).map λ k=>((k:Nat):Int)).map IV.int).reverse.length:=by simpa using li
 show List.getD (((ZT (Zen (cs.length:Int))).map λ k=>((k:Nat):Int)).map IV.int).reverse i .non=IV.int ((cs.length-1-i:Nat):Int)
 rw[ZaZ,Zl,Zb l2,ZcW]
 simp
theorem Jm8 (cs:List Cm):(lr0 cs).Perm (ZT cs.length):=by
 by_cases n0:cs.length=0
 ·unfold lr0
  rw[n0,Jgc]
  exact .refl _
 have:=(Jhj (cs.map rdC).reverse (Nat.pos_of_ne_zero n0)).map λ i=>cs.length-1-i
 refine this.trans ?_
 have e:(ZT cs.length).map (λ i=>cs.length-1-i)=(ZT cs.length).reverse:=by
  refine Zcn (by simp) λ i h1 h2=>?_
  simp[ZcW]
 rw[e]
 exact List.reverse_perm _
theorem Jxj (cs:List Cm):(lr0 cs).Pairwise λ p q=>rdN cs p<=rdN cs q:=by
 unfold lr0
 rw[Zdv]
 refine(Jtx (cs.map rdC).reverse cs.length).imp_of_mem λ {i j} hi hj h=>?_
 have li:=Yx _ i hi
 have lj:=Yx _ j hj
 have e:∀i,i<cs.length->(cs.map rdC).reverse.getD i 0=rdN cs (cs.length-1-i):=λ i li=>by
  have l2:i<(cs.map rdC).reverse.length:=by simpa using li
  unfold rdN
  rw[Zl,Zb l2,ZcW,Zl,Zb (show cs.length-1-i<cs.length by omega)]
  simp
 rwa [e i li,e j lj] at h
theorem wf0 (l1:∀c∈cs,1<=c.len):Wf cs (s0 cs):=by
 have zr:∀p,((s0 cs).ds.getD p 0:Int)=0:=λ p=>by
  show(cs.map λ _=>(0:Int)).getD p 0=0
  rw[Zl,Z1]
  cases cs[p]?<;>rfl
 have pm:=Jm8 cs
 refine⟨by simp[s0],λ p hp=>?_,?_,Jxj cs,λ p hp=>?_,λ p lp hp=>?_,λ p hp=>zr p,λ p hp=>?_⟩
 ·rw[show(s0 cs).lr++(s0 cs).wa=lr0 cs from Za4 _] at hp
  exact Jvo p hp
 ·rw[show(s0 cs).lr++(s0 cs).wa=lr0 cs from Za4 _]
  exact pm.nodup_iff.mpr ZdG
 ·rw[show(s0 cs).lr++(s0 cs).wa=lr0 cs from Za4 _] at hp
  have lp:=Jvo p hp
  rw[zr]
  have:1<=lnN cs p:=l1 _ (by rw[Zl,Zb lp];exact Z5 lp)
  omega
 ·rw[show(s0 cs).lr++(s0 cs).wa=lr0 cs from Za4 _] at hp
  exact absurd (pm.mem_iff.mpr (Za3.mpr lp)) hp
 ·cases hp
theorem Wf.step (w:Wf cs s)(ne:¬(s.lr=[]/\s.wa=[])):Wf cs (Q5 rs cs s)/\mea rs cs (Q5 rs cs s)<mea rs cs s:=by
 have w1:=w.let
 have gt:=Jvm w
 have le:=Jxl rs cs s
 obtain⟨p,ip⟩:=Jml (rs:=rs) (cs:=cs) (ds:=(letM cs s).ds) (Jq2 (cs:=cs) ne)
 unfold Q5 goM
 rw[ip.eq]
 obtain⟨a,b⟩:=Jhq (rs:=rs) gt (w1.z p (Zi _ ip.1)).2
 have sl:=Jru (hsN rs cs p) ((letM cs s).ds.getD p 0) (lnN cs p)
 exact⟨w1.do ip.1 a (by omega),ZJ (J0b w1 gt ip.1) le⟩
theorem Jnq (p:Nat)(t u:Int)(sr:List (Nat×Int×Int)):(Vm p t u sr).length<=sr.length+1:=by
 unfold Vm
 split
 ·simp
 ·split<;>simp
theorem Jng {s:Bs}(h:s.lr=[]/\s.wa=[]):runM rs cs m s=s:=by
 cases m with
 | zero=>rfl
 | succ m=>exact if_pos h
theorem mea0 (l6:∀r∈rs,r.2.length<=6)(hc:∀c∈cs,c.at_<rs.length):mea rs cs (s0 cs)<=8*cs.length:=by
 have e1:((ZT cs.length).map (VE rs cs (s0 cs).ds)).sum<=((ZT cs.length).map λ _=>6).sum:=Jnk λ p hp=>by
  have lp:=Za3.mp hp
  have ca:(cs.getD p cd).at_<rs.length:=hc _ (by rw[Zl,Zb lp];exact Z5 lp)
  have:=l6 _ (Z5 ca)
  refine ZZ (Zbl _ _) ?_
  unfold hsN
  rw[Ym ca]
  exact this
 have e2:=Zbl (λ p=>decide ((s0 cs).t<rdN cs p)) (s0 cs).lr
 have e3:(s0 cs).lr.length=cs.length:=by have:=(Jm8 cs).length_eq;rwa [Zb9] at this
 have e4:((s0 cs).lr++(s0 cs).wa).length=cs.length:=by rw[show(s0 cs).lr++(s0 cs).wa=(s0 cs).lr from Za4 _];exact e3
 rw[List.map_const',List.sum_replicate_nat,Zb9] at e1
 unfold mea
 omega
theorem Jwy:(finM rs cs).sr.length<=8*cs.length:=by
 have:∀(m:Nat)(s:Bs),(runM rs cs m s).sr.length<=s.sr.length+m:=by
  intro m
  induction m with
  | zero=>intro s;exact Zq _
  | succ m ih =>
   intro s
   unfold runM
   split
   ·omega
   ·have h1:=ih (Q5 rs cs s)
    have h2:(Q5 rs cs s).sr.length<=s.sr.length+1:=Jnq _ _ _ _
    omega
 have:=this (8*cs.length) (s0 cs)
 have e:(s0 cs).sr.length=0:=rfl
 unfold finM
 omega
theorem ds0 (cs:List Cm)(p:Nat):(s0 cs).ds.getD p 0=0:=by
 show(cs.map λ _=>(0:Int)).getD p 0=0
 rw[Zl,Z1]
 cases cs[p]?<;>rfl
section
variable {k:Nat}{h:IH}{rs:List RH}{cs:List Cm}{O R:Nat}
theorem Jxe (g:Bg h rs cs O R)(t0:h[2]?=Za (.tab "Bench.__init__"))(n64:cs.length<64):WR (Jcf (k+2) [.ref h.length,.ref O,.ref R] (h++[.ins "Bench" []])) λ v h'=>v=.non/\∃D L W S,Bn h h' h.length O R D L W S (s0 cs):=by
 have hb:=J2
 rw[Ji9]
 refine xfin (xseq (Vo rfl rfl Jk (by decide) ?_))
 rw[bp0,XF]
 refine xseq (Vo rfl rfl Jk (by show(1:Nat)<1000;decide) ?_)
 rw[bp1,XF]
 have x1:Ex h (h++[.ins "Bench" ((bfs O R 0 0 0 0 0).take 2)]):=.one _ _
 have g1:(h++[IX.ins "Bench" ((bfs O R 0 0 0 0 0).take 2)])[h.length]?=Za (.ins "Bench" ((bfs O R 0 0 0 0 0).take 2)):=Jk
 generalize h++[IX.ins "Bench" ((bfs O R 0 0 0 0 0).take 2)]=h1 at x1 g1
 refine xseq ?_
 rw[VS]
 refine WR.mono (Ql (h:=h1) (xs:=cs.map tupC) (chk:=λ h'=>h'[R]?=Za (.lst (cs.map tupC))) (f:=λ _=>.int 0) ?_ (by rw[Zj];omega) (λ h2 q=>q _ _ (x1.get g.r)) λ v hv h2 q=>Je rfl ⟨rfl,.refl _⟩) ?_
 ·rw[JW]
  exact Je rfl ((JN _).mpr ⟨_,x1.get g.r,rfl,rfl,rfl⟩)
 rintro _ _ ⟨rfl,gg,rfl⟩
 have lt1:=JB g1
 refine Je rfl ⟨_,_,_,rfl,grow g1,by show(2:Nat)<1000;decide,?_⟩
 rw[bp2]
 have x2:=Vw (i:=h.length) (o:=.ins "Bench" ((bfs O R h1.length 0 0 0 0).take 3)) (x1.trans (Ex.cons h1 (.lst ((cs.map tupC).map λ _=>.int 0)) gg)) (Zq _)
 have g2:=QH (o':=.ins "Bench" ((bfs O R h1.length 0 0 0 0).take 3)) (grow g1 (g:=.lst ((cs.map tupC).map λ _=>.int 0)::gg))
 have d2:=J9 (i:=h.length) (o':=.ins "Bench" ((bfs O R h1.length 0 0 0 0).take 3)) (J4 (h:=h1) (o:=.lst ((cs.map tupC).map λ _=>.int 0)) (g:=gg)) (by omega)
 generalize h1.length=D at *
 generalize (h1++IX.lst ((cs.map tupC).map λ _=>.int 0)::gg).set h.length (.ins "Bench" ((bfs O R D 0 0 0 0).take 3))=h2 at x2 g2 d2
 have ks:QD (λ v h'=>Xq (k+1) [Za v,Za (.ref R)] h') (rngI 0 (cs.length:Int)) [] h2=.ok (cs.map rdC) h2:=by
  have:=Jqx (mk:=λ v h'=>Xq (k+1) [Za v,Za (.ref R)] h') (kf:=λ v=>match v with|.int p=>rdN cs p.toNat|_=>0) (h:=h2) (ys:=rngI 0 (cs.length:Int)) (ks:=[]) λ y hy=>by
   rw[XB,ZaZ,ZaD] at hy
   obtain⟨p,hp,rfl⟩:=Z3.mp hy
   have lp:=Za3.mp hp
   show Xq (k+1) [Za (nI p),Za (.ref R)] h2=.ok (.int (rdN cs (Zen (p:Int)))) h2
   rw[ZaZ]
   exact JY (arg1 (ixlE rfl rfl (x2.get g.r) (Vv lp))) Jnd
  rw[this,Zaw,XB,ZaZ,ZaD,ZaD]
  congr 1
  refine Zcn (by simp) λ i h1 h2=>?_
  have li:i<cs.length:=by simpa using h2
  simp only[Zag,Zdq,Function.comp,ZaZ,rdN]
  rw[Zl,Zb li]
  rfl
 have es:Yi "Bench.__init__" 2 [2] (Jb (eCB (on1 lenI) (Jb (Ja 2) Jd)) Jd) (Xq (k+1)) [Za (.ref h.length),Za (.ref O),Za (.ref R)] h2=.ok (.ref h2.length) (h2++[.lst ((lr0 cs).reverse.map nI)]):=by
  unfold Yi
  rw[arg1 (lenE rfl (x2.get g.r)),Zj]
  show(match [IV.int (cs.length:Int)],h2[2]? with|[.int n],Za (.tab q')=>_|_,_=>_)=_
  rw[x2.get t0]
  show(if _ then _ else _)=_
  rw[if_pos ⟨rfl,by omega,by omega⟩]
  show(QD (λ v h'=>Xq (k+1) [Za v,Za (.ref R)] h') (rngI 0 (cs.length:Int)) [] h2).bind _=_
  rw[ks]
  show Y0 Zh (rngI 0 (cs.length:Int)).reverse (cs.map rdC).reverse h2=_
  unfold Y0
  rw[show(rngI 0 (cs.length:Int)).reverse.length=cs.length by rw[ZbF,XB];simp,Jz7,List.map_reverse]
  rfl
 refine xseq (Vo es rfl (grow g2) (by show(3:Nat)<1000;decide) ?_)
 rw[bp3]
 have lt2:=JB d2
 have x3:=Vw (i:=h.length) (o:=.ins "Bench" ((bfs O R D h2.length 0 0 0).take 4)) (x2.trans (Ex.one h2 (.lst ((lr0 cs).reverse.map nI)))) (Zq _)
 have g3:=QH (o':=.ins "Bench" ((bfs O R D h2.length 0 0 0).take 4)) (grow g2 (g:=[.lst ((lr0 cs).reverse.map nI)]))
 have d3:=J9 (i:=h.length) (o':=.ins "Bench" ((bfs O R D h2.length 0 0 0).take 4)) (grow d2 (g:=[.lst ((lr0 cs).reverse.map nI)])) (by omega)
 have l3:=J9 (i:=h.length) (o':=.ins "Bench" ((bfs O R D h2.length 0 0 0).take 4)) (Jk (h:=h2) (o:=.lst ((lr0 cs).reverse.map nI))) (by omega)
 generalize h2.length=L at *
 generalize (h2++[IX.lst ((lr0 cs).reverse.map nI)]).set h.length (.ins "Bench" ((bfs O R D L 0 0 0).take 4))=h3 at x3 g3 d3 l3
 have lt3:=JB l3
 refine xseq ?_
 rw[VS]
 refine xlst (Je rfl ⟨ZY _,Je rfl ⟨_,_,_,rfl,grow g3,by show(4:Nat)<1000;decide,?_⟩⟩)
 rw[bp4]
 refine xseq (Vo rfl rfl (QH (grow g3)) (by show(5:Nat)<1000;decide) ?_)
 rw[bp5,ZdS]
 unfold Jdd
 rw[VS]
 refine xlst (Je rfl ⟨ZY _,Je rfl ⟨_,_,_,rfl,grow (QH (grow g3)),by show(6:Nat)<1000;decide,rfl,?_⟩⟩)
 rw[bp6]
 have sw:=Jk (h:=h3) (o:=.lst [])
 have lw:=JB sw
 rw[Zx,ZaA] at lw
 have ln:(List.set (h3++[IX.lst []]) h.length (.ins "Bench" ((bfs O R D L h3.length 0 0).take 6))).length=h3.length+1:=by rw[Zbt,Zx,ZaA]
 refine⟨D,L,h3.length,_,Vw ((Vw (x3.trans (.one _ _)) (Zq _)).trans (.one _ _)) (Zq _),⟨Zq _,by omega,by omega,by omega,by omega⟩,QH (grow (QH (grow g3))),J9 (grow (J9 (grow ?_) (by omega))) (by omega),J9 (grow (J9 (grow l3) (by omega))) (by omega),J9 (grow (J9 sw (by omega))) (by omega),J9 Jk (by omega)⟩
 rw[d3]
 simp[s0]
theorem J0x (g:Bg h rs cs O R)(t0:h[2]?=Za (.tab "Bench.__init__"))(L:Legal rs cs)(n64:cs.length<64) :
  WR (Jwd (k+7) [.ref O,.ref R] h) λ v h'=>∃j,v=.ref j/\h.length<=j/\h'[j]?=Za (.lst ((finM rs cs).sr.reverse.map tupS))/\Ex h h':=by
 obtain⟨Du,du,fd⟩:=Jrd g.o
 have w0:Wf cs (s0 cs):=wf0 λ c hc=>(L.ok c hc).n1
 rw[Jze]
 refine xfin (xseq (Q7 (xb (Je (arg2 (fd _ _ rfl) rfl) (WR.mono (Jy3 (k:=k+1) du g.r L g.n) ?_)))))
 rintro _ h1 ⟨rfl,x1⟩
 have g1:Bg h1 rs cs O R:=⟨g.o.kp x1.kp,x1.get g.r,g.c,g.l6,x1.get g.p1,g.n⟩
 refine xseq (xset ?_)
 rw[VR]
 refine Je (arg2 rfl rfl) (WR.mono (Jxe (k:=k+4) g1 (x1.get t0) n64) ?_)
 rintro _ h2 ⟨rfl,D,La,W,S,b0⟩
 refine⟨rfl,xseq ?_⟩
 have m0:=mea0 g.l6 g.c
 have cn:=g.n
 refine Joc (λ m σ h'=>∃s,σ=[Za (.ref O),Za (.ref R),Za (.ref h1.length)]/\Bn h1 h' h1.length O R D La W S s/\Wf cs s/\mea rs cs s<=m/\s.sr.length+m<=8*cs.length/\runM rs cs m s=finM rs cs) ?_ (show 8*cs.length<1000000 by omega) ⟨s0 cs,rfl,b0,w0,m0,by simp[s0],rfl⟩
 rintro m _ h3 ⟨s,rfl,b,w,lm,ls,er⟩
 refine Je (gtE (addE (lenE (fldE rfl b.b bf3) b.l) (lenE (fldE rfl b.b bf4) b.w)) rfl) (xdec (λ c=>?_) λ c=>?_)
 ·have ne:¬(s.lr=[]/\s.wa=[]):=λ ⟨a,z⟩=>by rw[a,z] at c;exact absurd c (by simp)
  obtain⟨w1,lt⟩:=w.step (rs:=rs) ne
  cases m with
  | zero=>omega
  | succ m =>
   refine⟨m,rfl,Q7 (XT rfl b.b bn4 (Jhz _) (Je rfl (WR.mono (J16 (k:=k) g1 w ne (by omega) b) ?_)))⟩
   rintro _ h4 ⟨rfl,b4⟩
   refine⟨_,rfl,b4,w1,by omega,?_,?_⟩
   ·have:=Jnq (X8 rs cs (letM cs s).ds (letM cs s).wa) (letM cs s).t ((letM cs s).t+JV rs cs (letM cs s) (X8 rs cs (letM cs s).ds (letM cs s).wa)) s.sr
    have:(Q5 rs cs s).sr.length<=s.sr.length+1:=this
    omega
   ·rw[<- er]
    exact(if_neg ne).symm
 ·have ne:s.lr=[]/\s.wa=[]:=by
   simp only[Zj,ZbF] at c
   exact⟨Zc4.mp (by omega),Zc4.mp (by omega)⟩
  rw[Jng ne] at er
  refine xret (Je (fldE rfl b.b bf6) ⟨S,rfl,?_,?_,x1.trans b.x⟩)
  ·have:=b.ap
   have:=JB b0.b
   obtain⟨gg,rfl⟩:=x1
   rw[Zx] at *
   omega
  ·rw[<- er]
   exact b.s
end
end
abbrev St3:=Nat×Int×Int
def sumP (p:Nat)(l:List St3):Int:=(l.map λ a=>if a.1=p then a.2.2-a.2.1 else 0).sum
theorem VN:sumP p (a::l)=(if a.1=p then a.2.2-a.2.1 else 0)+sumP p l:=by simp[sumP]
theorem Jnp:sumP p (l++m)=sumP p l+sumP p m:=by simp[sumP]
theorem Jul:sumP p ([]:List St3)=0:=rfl
theorem Jjx:∀{l:List St3},sumP p l.reverse=sumP p l
 | []=>rfl
 | a::l=>by
  rw[Zbr,Jnp,Jjx,VN,VN,Jul]
  omega
theorem Jne:rk hss zs a<=a:=Yc (λ i=>(rkNs hss zs a).getD i 0) _ 0 (by simp[rkNs])
theorem J26 (hz:z∈zs):rk hss zs a<=fZ hss z:=by
 obtain⟨i,hi,rfl⟩:=Zam.mp hz
 have e:(rkNs hss zs a).getD (i+1) 0=fZ hss zs[i]:=by simp[rkNs,hi]
 unfold rk
 rw[<- e]
 exact Yc (λ i=>(rkNs hss zs a).getD i 0) (rkNs hss zs a).length (i+1) (by simp[rkNs,hi])
def atN (cs:List Cm)(p:Nat):Int:=((cs.getD p cd).at_:Int)
def acN (rs:List RH)(cs:List Cm)(ds:List Int)(p:Nat):List Str:=act (hsN rs cs p) (ds.getD p 0)
def rkN (rs:List RH)(cs:List Cm)(ds:List Int)(p:Nat):Int:=rk (rs.map (·.2)) (acN rs cs ds p) (cs.getD p cd).at_
theorem Jyz {ds:List Int}(hx:x∈hsN rs cs p)(h1:x.2.1<ds.getD p 0)(h2:ds.getD p 0<x.2.2):x.1∈acN rs cs ds p:=Z3.mpr ⟨x,Zau.mpr ⟨hx,by show(decide _&&decide _)=Zh;rw[decide_eq_true h1,decide_eq_true h2];rfl⟩,rfl⟩
theorem Ju6 (h0:∀x∈hsN rs cs p,0<=x.2.1)(ne:acN rs cs ds p≠[]):0<ds.getD p 0:=by
 obtain⟨z,hz⟩:=List.exists_mem_of_ne_nil _ ne
 obtain⟨a,ha,_⟩:=Z3.mp hz
 have:=(Zau.mp ha).2
 have h0:=h0 a (Zau.mp ha).1
 simp only[actv,Zr,decide_eq_true_eq] at this
 omega
theorem Jre (ip:Vq rs cs ds wa p)(hq:q∈wa):rkN rs cs ds p<=rkN rs cs ds q/\(rkN rs cs ds q=rkN rs cs ds p->acN rs cs ds p=[]->acN rs cs ds q=[]):=by
 have h:=ip.2 q hq
 change ltL [rkN rs cs ds q,if (!(acN rs cs ds q).isEmpty)=Zh then 0 else 1,(q:Int)] [rkN rs cs ds p,if (!(acN rs cs ds p).isEmpty)=Zh then 0 else 1,(p:Int)]=Zk at h
 unfold ltL at h
 by_cases e:rkN rs cs ds q=rkN rs cs ds p
 ·refine⟨by omega,λ _ a=>?_⟩
  rw[if_pos e,a] at h
  cases b:acN rs cs ds q with
  | nil=>rfl
  | cons z l =>
   rw[b] at h
   cases h
 ·rw[if_neg e,decide_eq_false_iff_not] at h
  exact⟨by omega,λ z=>absurd z e⟩
def Iv (rs:List RH)(cs:List Cm)(ds:List Int):Prop:=∀p q,p<cs.length->q<cs.length->p≠q->ds.getD p 0<lnN cs p->ds.getD q 0<lnN cs q->acN rs cs ds p≠[]->acN rs cs ds q≠[]->atN cs p<rkN rs cs ds q∨atN cs q<rkN rs cs ds p
theorem J27 (l:rk hss zs a<a):∃z∈zs,rk hss zs a=fZ hss z:=by
 obtain⟨j,hj,e⟩:=Jl3 (λ i=>(rkNs hss zs a).getD i 0) (rkNs hss zs a).length (by simp[rkNs])
 have e:rk hss zs a=(rkNs hss zs a).getD j 0:=e
 cases j with
 | zero =>
  rw[e] at l
  exact absurd l (Int.lt_irrefl _)
 | succ j =>
  have lj:j<zs.length:=by simpa [rkNs] using hj
  refine⟨zs[j],Z5 lj,?_⟩
  rw[e]
  simp[rkNs,lj]
theorem Jrt (hx:x∈hs)(l:d<x.2.2):QI hs d len<=x.2.2:=by
 have m:x.2.2∈(hs.filter λ a=>decide (d<a.2.2)).map (·.2.2):=Z3.mpr ⟨x,Zau.mpr ⟨hx,decide_eq_true l⟩,rfl⟩
 obtain⟨i,hi,e⟩:=Zam.mp m
 have b:=Yc (λ i=>(Qk hs d len).getD i 0) (Qk hs d len).length (i+1) (by simpa [Qk] using hi)
 have q:(Qk hs d len).getD (i+1) 0=x.2.2:=by
  rw[<- e,Zl]
  show(((hs.filter λ a=>decide (d<a.2.2)).map (·.2.2))[i]?).getD 0=_
  rw[Zb hi]
  rfl
 rw[<- q]
 exact b
theorem Jun {s:Bs}(w:s.lr.Pairwise λ p q=>rdN cs p<=rdN cs q)(hq:q∈s.lr):JV rs cs s p<=rdN cs q-s.t:=by
 unfold JV
 cases e:s.lr with
 | nil=>rw[e] at hq;cases hq
 | cons a r =>
  rw[e] at hq w
  have:rdN cs a<=rdN cs q:=by
   rcases Z7.mp hq with rfl|hq
   ·exact Zay _
   ·exact(Zbz.mp w).1 q hq
  dsimp only
  split<;>omega
def ovl (S b u:Int):Int:=if 0<u-(if S>b then S else b) then u-(if S>b then S else b) else 0
def wkT (cs:List Cm)(p q:Nat)(b u:Int):Int:=if atN cs p<atN cs q then ovl (rdN cs p) b u else 0
def Wp (cs:List Cm)(p:Nat)(l:List St3):Int:=(l.map λ a=>wkT cs p a.1 a.2.1 a.2.2).sum
theorem XY:Wp cs p (a::l)=wkT cs p a.1 a.2.1 a.2.2+Wp cs p l:=by simp[Wp]
theorem Jyy:Wp cs p (l++m)=Wp cs p l+Wp cs p m:=by simp[Wp]
theorem Ju5:∀{l:List St3},Wp cs p l.reverse=Wp cs p l
 | []=>rfl
 | a::l=>by
  rw[Zbr,Jyy,Ju5,XY,XY]
  show _+(_+0)=_
  omega
structure Bd (rs:List RH)(cs:List Cm)(p:Nat)(L:Int):Prop where
 z:0<=L
 b:∀q,q<cs.length->atN cs p<atN cs q->∀x∈hsN rs cs q,fZ (rs.map (·.2)) x.1<=atN cs p->x.2.2-x.2.1-1<=L
def Wc (cs:List Cm)(p:Nat)(L:Int)(r:List St3):Prop:=sumP p r<lnN cs p->Wp cs p r<=L
def Wb (cs:List Cm)(p:Nat)(L:Int):List St3->Prop
 | []=>True
 | _::r=>Wc cs p L r/\Wb cs p L r
structure Sv (rs:List RH)(cs:List Cm)(p:Nat)(L:Int)(s:Bs):Prop where
 tl:∀a r,s.sr=a::r->a.2.2=s.t
 ea:∀a∈s.sr,a.1<cs.length/\a.2.1<a.2.2/\0<s.ds.getD a.1 0
 pw:s.sr.Pairwise λ a b=>b.2.2<=a.2.1
 sm:∀q,q<cs.length->sumP q s.sr=s.ds.getD q 0
 iv:Iv rs cs s.ds
 wl:p∈s.lr->Wp cs p s.sr=0/\s.t<=rdN cs p
 wv:s.ds.getD p 0<lnN cs p->Wp cs p s.sr<=L/\∀q,q<cs.length->atN cs p<atN cs q->s.ds.getD q 0<lnN cs q->∀x∈hsN rs cs q,fZ (rs.map (·.2)) x.1<=atN cs p->x.2.1<s.ds.getD q 0->s.ds.getD q 0<x.2.2->Wp cs p s.sr+(x.2.2-s.ds.getD q 0)<=L
 wb:Wb cs p L s.sr
def Nst (rs:List RH)(cs:List Cm):Prop:=∀q,q<cs.length->∀x∈hsN rs cs q,∀y∈hsN rs cs q,x.2.1<y.2.1->y.2.1<x.2.2->y.2.2<=x.2.2
theorem Sv.step {cs:List Cm}(lq:q<cs.length)(B:Bd rs cs q L)(T:Nst rs cs)(h0:∀p,p<cs.length->∀x∈hsN rs cs p,0<=x.2.1)(w:Wf cs s)(ne:¬(s.lr=[]/\s.wa=[]))(v:Sv rs cs q L s):Sv rs cs q L (Q5 rs cs s):=by
 have w1:=w.let
 have gt:=Jvm w
 have tg:=Jrx cs s
 obtain⟨p,ip⟩:=Jml (rs:=rs) (cs:=cs) (ds:=(letM cs s).ds) (Jq2 (cs:=cs) ne)
 have hp:=ip.1
 unfold Q5 goM
 rw[ip.eq]
 have zp:=w1.z p (Zi _ hp)
 have lp:=w1.mem p (Zi _ hp)
 obtain⟨n0,n1⟩:=Jhq (rs:=rs) gt zp.2
 have n2:=λ q hq=>Jun (rs:=rs) (p:=p) w1.srt (q:=q) hq
 generalize JV rs cs (letM cs s) p=n at n0 n1 n2
 have n1:s.ds.getD p 0+n<=QI (hsN rs cs p) (s.ds.getD p 0) (lnN cs p):=n1
 have n2:∀q∈(letM cs s).lr,n<=rdN cs q-tIn cs s:=n2
 have zp:0<=s.ds.getD p 0/\_:=zp
 have ld:=w.ld
 have gd:∀q,(doM rs cs (letM cs s) p n).ds.getD q 0=if p=q then s.ds.getD p 0+n else s.ds.getD q 0:=λ q=>by
  show(s.ds.set p _).getD q 0=_
  rw[Yn]
  by_cases e:p=q
  ·subst e;rw[if_pos ⟨rfl,by omega⟩,if_pos rfl];rfl
  ·rw[if_neg λ z=>e z.1,if_neg e]
 have K:∀q,q<cs.length->p≠q->s.ds.getD q 0<lnN cs q->acN rs cs s.ds q≠[]->atN cs p<rkN rs cs s.ds q:=λ q lq nq lt aq=>by
  have dq:=Ju6 (h0 q lq) aq
  have hq:q∈(letM cs s).wa:=by
   by_cases m:q∈(letM cs s).lr++(letM cs s).wa
   ·rcases ZL.mp m with m|m
    ·have:s.ds.getD q 0=0:=w1.z0 q m
     omega
    ·exact m
   ·have:s.ds.getD q 0=_:=w1.dn q lq m
    omega
  obtain⟨le,fl⟩:rkN rs cs s.ds p<=rkN rs cs s.ds q/\_:=Jre ip hq
  by_cases ap:acN rs cs s.ds p=[]
  ·have e:rkN rs cs s.ds p=atN cs p:=by
    unfold rkN
    rw[ap]
    rfl
   by_cases eq:rkN rs cs s.ds q=rkN rs cs s.ds p
   ·exact absurd (fl eq ap) aq
   ·omega
  ·rcases v.iv p q lp lq nq zp.2 lt ap aq with z|z
   ·exact z
   ·have:rkN rs cs s.ds q<=atN cs q:=Jne
    omega
 have same:∀a r,s.sr=a::r->a.1=p->a.2.2=tIn cs s:=λ a r e z=>by
  have h1:=v.tl a r e
  have h2:=(v.ea a (by rw[e];simp)).2.2
  rw[z] at h2
  rw[h1]
  unfold tIn
  split
  ·rename_i ew el
   obtain⟨b,e1,e2,_⟩:=Xc cs (tIn cs s) s.lr s.wa
   have hp:p∈(pops cs (tIn cs s) s.lr s.wa).2:=hp
   rw[e2,ew,Zaw] at hp
   have:=w.z0 p (by rw[e1];exact Zah _ hp)
   omega
  ·rfl
 obtain⟨b,r,es,sub,b1,pr,bl,sp,sq,wq,wr⟩:∃b r,Vm p (tIn cs s) (tIn cs s+n) s.sr=(p,b,tIn cs s+n)::r/\(∀c∈r,c∈s.sr)/\b<=tIn cs s/\r.Pairwise (λ a b=>b.2.2<=a.2.1)/\(∀c∈r,c.2.2<=b)/\sumP p r+(tIn cs s-b)=sumP p s.sr/\(∀q,p≠q->sumP q r=sumP q s.sr)/\Wp cs q r+wkT cs q p b (tIn cs s)=Wp cs q s.sr/\Wc cs q L r/\Wb cs q L r:=by
  have pw:=v.pw
  have wb:=v.wb
  have zz:wkT cs q p (tIn cs s) (tIn cs s)=0:=by
   unfold wkT ovl
   split
   ·split<;>split<;>omega
   ·rfl
  have wc:Wc cs q L s.sr:=λ l=>(v.wv (by rw[<- v.sm q lq];exact l)).1
  have tl:=v.tl
  cases e:s.sr with
  | nil=>exact⟨_,[],rfl,λ _ h=>h,Zay _,.nil,(λ _ h=>by cases h),by omega,(λ _ _=>rfl),by rw[zz];omega,e▸wc,trivial⟩
  | cons a r =>
   rw[e] at pw wb wc
   obtain⟨p1,p2⟩:=Zbz.mp pw
   have t1:=tl a r e
   have ha:=(v.ea a (by rw[e];simp)).2.1
   by_cases z:a.1=p
   ·have sa:=same a r e z
    refine⟨a.2.1,r,if_pos z,λ _ h=>Zn _ h,by omega,p2,p1,by rw[VN,if_pos z];omega,λ q nq=>by rw[VN,if_neg (by rw[z];exact nq)];omega,by rw[XY,z,sa];omega,wb⟩
   ·refine⟨_,a::r,if_neg z,λ _ h=>h,Zay _,pw,λ c hc=>?_,by omega,λ _ _=>rfl,by rw[zz];omega,wc,wb⟩
    rcases Z7.mp hc with rfl|hc
    ·omega
    ·have:=p1 c hc
     omega
 have es:(doM rs cs (letM cs s) p n).sr=(p,b,tIn cs s+n)::r:=es
 have sm:=v.sm
 have sp:=sm p lp▸sp
 have ac:∀q,p≠q->acN rs cs (doM rs cs (letM cs s) p n).ds q=acN rs cs s.ds q:=λ q nq=>by
  unfold acN
  rw[gd,if_neg nq]
 have kr:∀q,p≠q->rkN rs cs (doM rs cs (letM cs s) p n).ds q=rkN rs cs s.ds q:=λ q nq=>by
  unfold rkN
  rw[ac q nq]
 have wn:Wp cs q (doM rs cs (letM cs s) p n).sr=wkT cs q p b (tIn cs s+n)+Wp cs q r:=by rw[es,XY]
 -- those that are not ready yet
 have wl:q∈(doM rs cs (letM cs s) p n).lr->Wp cs q (doM rs cs (letM cs s) p n).sr=0/\(doM rs cs (letM cs s) p n).t<=rdN cs q:=λ hq=>by
  have hq:q∈(letM cs s).lr:=hq
  have l2:=n2 q hq
  obtain⟨c,e1,_⟩:=Xc cs (tIn cs s) s.lr s.wa
  have z:=(v.wl (by rw[e1];exact Zi _ hq)).1
  have w0:=wq
  refine⟨?_,by show tIn cs s+n<=_;omega⟩
  rw[wn]
  unfold wkT ovl at *
  split
  ·rename_i c1
   rw[if_pos c1] at w0
   split at w0<;>split at w0<;>split<;>split<;>omega
  ·rename_i c1
   rw[if_neg c1] at w0
   omega
 refine⟨λ a r' z=>?_,λ a ha=>?_,by rw[es];exact Zbz.mpr ⟨bl,pr⟩,λ q lq=>?_,λ x y lx ly nxy dx dy ax ay=>?_,wl,λ dq=>?_,?_⟩
 ·rw[es] at z
  cases z
  rfl
 ·rw[es] at ha
  rcases Z7.mp ha with rfl|ha
  ·exact⟨lp,by show b<tIn cs s+n;omega,by rw[gd,if_pos rfl];omega⟩
  ·have:=v.ea a (sub a ha)
   refine⟨this.1,this.2.1,?_⟩
   rw[gd]
   split<;>omega
 ·rw[es,gd,VN]
  by_cases z:p=q
  ·subst z
   rw[if_pos rfl,if_pos rfl]
   show tIn cs s+n-b+_=_
   omega
  ·rw[if_neg z,if_neg z,sq q z,sm q lq]
   omega
 ·rw[gd] at dx dy
  by_cases z:p=x
  ·subst z
   rw[if_neg nxy] at dy
   rw[ac y nxy] at ay
   rw[kr y nxy]
   exact .inl (K y ly nxy dy ay)
  ·rw[if_neg z] at dx
   rw[ac x z] at ax
   rw[kr x z]
   by_cases z2:p=y
   ·subst z2
    exact .inr (K x lx z dx ax)
   ·rw[if_neg z2] at dy
    rw[ac y z2] at ay
    rw[kr y z2]
    exact v.iv x y lx ly nxy dx dy ax ay
 ·have w0:=wq
  have bz:=B.z
  have dq0:s.ds.getD q 0<lnN cs q:=by
   rw[gd] at dq
   split at dq
   ·rename_i e;subst e;omega
   ·exact dq
  obtain⟨v1,v2⟩:=v.wv dq0
  rw[wn]
  by_cases wk:atN cs q<atN cs p
  ·-- p is weaker than q
   have nqp:p≠q:=λ e=>by rw[e] at wk;omega
   have m:q∈(letM cs s).lr++(letM cs s).wa:=by
    by_cases m:q∈(letM cs s).lr++(letM cs s).wa
    ·exact m
    ·have:s.ds.getD q 0=_:=w1.dn q lq m
     omega
   rcases ZL.mp m with m|m
   ·have z:=(wl m).1
    rw[wn] at z
    rw[z]
    refine⟨bz,λ y ly ay dy x hx fx l1 l2=>?_⟩
    have:=B.b y ly ay x hx fx
    omega
   ·have rq:rdN cs q<=tIn cs s:=w1.rw q m
    obtain⟨le,_⟩:rkN rs cs s.ds p<=rkN rs cs s.ds q/\_:=Jre ip m
    have rl:rkN rs cs s.ds q<=atN cs q:=Jne
    obtain⟨z,hz,ez⟩:=J27 (hss:=rs.map (·.2)) (zs:=acN rs cs s.ds p) (a:=(cs.getD p cd).at_) (by show rkN rs cs s.ds p<atN cs p;omega)
    have ez:rkN rs cs s.ds p=fZ (rs.map (·.2)) z:=ez
    obtain⟨y,hy,rfl⟩:=Z3.mp hz
    obtain⟨hy,ay⟩:=Zau.mp hy
    simp only[actv,Zr,decide_eq_true_eq] at ay
    have st:=Jrt (len:=lnN cs p) hy ay.2
    have pp:=v2 p lp wk zp.2 y hy (by omega) ay.1 ay.2
    have nw:wkT cs q p b (tIn cs s+n)+Wp cs q r<=Wp cs q s.sr+n:=by
     unfold wkT ovl at *
     rw[if_pos wk] at w0 ⊢
     split at w0<;>split at w0<;>split<;>omega
    refine⟨by omega,λ u lu au du x hx fx l1 l2=>?_⟩
    by_cases e:p=u
    ·subst e
     rw[gd,if_pos rfl] at l1 l2 ⊢
     by_cases l3:x.2.1<s.ds.getD p 0
     ·have:=v2 p lp wk zp.2 x hx fx l3 (by omega)
      omega
     ·have:=T p lp y hy x hx (by omega) (by omega)
      omega
    ·rw[gd,if_neg e] at l1 l2 du
     have m2:=Jyz hx l1 l2
     have r2:rkN rs cs s.ds u<=fZ (rs.map (·.2)) x.1:=J26 m2
     rcases v.iv p u lp lu e zp.2 du (Zdr hz) (Zdr m2) with h|h<;>omega
  ·have w2:wkT cs q p b (tIn cs s+n)=0:=if_neg wk
   have w3:wkT cs q p b (tIn cs s)=0:=if_neg wk
   rw[w2]
   refine⟨by omega,λ u lu au du x hx fx l1 l2=>?_⟩
   have e:p≠u:=λ e=>by rw[e] at wk;exact wk au
   rw[gd,if_neg e] at l1 l2 du ⊢
   have:=v2 u lu au du x hx fx l1 l2
   omega
 ·rw[es]
  exact wr
theorem Jrl (I:Bs->Prop)(step:∀s,Wf cs s->¬(s.lr=[]/\s.wa=[])->I s->I (Q5 rs cs s)):∀(m:Nat)(s:Bs),Wf cs s->mea rs cs s<=m->I s->Wf cs (runM rs cs m s)/\(runM rs cs m s).lr=[]/\(runM rs cs m s).wa=[]/\I (runM rs cs m s)
 | m,s,w,lm,i=>by
  by_cases ne:s.lr=[]/\s.wa=[]
  ·rw[Jng ne]
   exact⟨w,ne.1,ne.2,i⟩
  ·obtain⟨w1,lt⟩:=w.step (rs:=rs) ne
   cases m with
   | zero=>omega
   | succ m =>
    rw[show runM rs cs (m+1) s=runM rs cs m (Q5 rs cs s) from if_neg ne]
    exact Jrl I step m _ w1 (by omega) (step s w ne i)
theorem Jvx:∀{l:List St3},(∀a∈l,a.2.1<a.2.2)->0<=sumP q l
 | [],_=>Zay _
 | a::l,h=>by
  have:=Jvx (q:=q) λ b hb=>h b (Zn _ hb)
  have:=h a Z4
  rw[VN]
  split<;>omega
theorem Wb.at:∀{l:List St3},Wb cs p L l->∀{i:Nat},i<l.length->Wc cs p L (l.drop (i+1))
 | _::_,t,0,_=>t.1
 | _::l,t,i+1,h=>Wb.at (l:=l) t.2 (i:=i) (Nat.lt_of_succ_lt_succ h)
structure Fw (cs:List Cm)(p:Nat)(L:Int)(ss:List St3):Prop where
 lt:∀a∈ss,a.1<cs.length
 ps:∀a∈ss,a.2.1<a.2.2
 pw:ss.Pairwise λ a b=>a.2.2<=b.2.1
 sm:sumP p ss=lnN cs p
 wc:∀i,i<ss.length->Wc cs p L (ss.take i)
theorem Jy9 {cs:List Cm}(lp:p<cs.length)(L:Legal rs cs)(six:∀r∈rs,r.2.length<=6)(h0:∀p,p<cs.length->∀x∈hsN rs cs p,0<=x.2.1)(B:Bd rs cs p z)(T:Nst rs cs):Fw cs p z (finM rs cs).sr.reverse:=by
 have cm:∀p,p<cs.length->cs.getD p cd∈cs:=λ p lp=>by rw[Zl,Zb lp];exact Z5 lp
 have i0:Iv rs cs (s0 cs).ds:=λ p q lp lq _ _ _ ap _=>by
  have:=Ju6 (h0 p lp) ap
  rw[ds0] at this
  omega
 have w0:Wp cs p (s0 cs).sr=0:=rfl
 have ri:=Jrl (rs:=rs) (cs:=cs) (Sv rs cs p z) (λ s w ne v=>v.step lp B T h0 w ne) (8*cs.length) (s0 cs) (wf0 λ c hc=>(L.ok c hc).n1) (mea0 six λ c hc=>(L.ok c hc).at_) ⟨(λ a r e=>by cases e),(λ a ha=>by cases ha),.nil,(λ p lp=>(ds0 cs p).symm),i0,(λ _=>⟨rfl,by
   have:=L.ok _ (cm p lp)
   have h1:=this.come
   have h2:=this.l0
   show(0:Int)<=(cs.getD p cd).come+(cs.getD p cd).late
   omega⟩),(λ _=>⟨B.z,λ q lq aq _ x hx fx l1 _=>by
   have:=B.b q lq aq x hx fx
   rw[w0]
   omega⟩),trivial⟩
 obtain⟨wf,el,ew,sv⟩:=ri
 change Wf cs (finM rs cs) at wf
 change (finM rs cs).lr=[] at el
 change (finM rs cs).wa=[] at ew
 change Sv rs cs p z (finM rs cs) at sv
 generalize finM rs cs=fm at *
 refine⟨λ a ha=>(sv.ea a (List.mem_reverse.mp ha)).1,λ a ha=>(sv.ea a (List.mem_reverse.mp ha)).2.1,List.pairwise_reverse.mpr sv.pw,?_,λ i hi=>?_⟩
 ·rw[Jjx,sv.sm p lp,wf.dn p lp (by rw[el,ew];simp)]
 ·rw[ZbF] at hi
  have:=sv.wb.at (i:=fm.sr.length-1-i) (by omega)
  rw[show fm.sr.length-1-i+1=fm.sr.length-i by omega] at this
  unfold Wc
  rw[List.take_reverse,Jjx,Ju5]
  exact this
def cut1 (cs:List Cm)(p:Nat)(L:Int)(a:St3):Int:=if atN cs p<atN cs a.1 then(if 0<(if L<a.2.2 then L else a.2.2)-(if rdN cs p>a.2.1 then rdN cs p else a.2.1) then(if L<a.2.2 then L else a.2.2)-(if rdN cs p>a.2.1 then rdN cs p else a.2.1) else 0) else 0
def cutS (cs:List Cm)(p:Nat)(L:Int)(l:List St3):Int:=(l.map (cut1 cs p L)).sum
theorem Ju9:∀(l:List St3),cutS cs p L l<=Wp cs p l
 | []=>Zay _
 | a::l=>by
  have ih:=Ju9 (cs:=cs) (p:=p) (L:=L) l
  rw[XY]
  show cut1 cs p L a+cutS cs p L l<=_
  have:cut1 cs p L a<=wkT cs p a.1 a.2.1 a.2.2:=by
   unfold cut1 wkT ovl
   split
   ·split<;>split<;>split<;>omega
   ·omega
  omega
theorem Jm4:∀(l:List St3),(∀a∈l,L<=a.2.1)->cutS cs p L l=0
 | [],_=>rfl
 | a::l,h=>by
  have ih:=Jm4 (cs:=cs) (p:=p) (L:=L) l λ b hb=>h b (Zn _ hb)
  have:=h a Z4
  show cut1 cs p L a+cutS cs p L l=0
  have:cut1 cs p L a=0:=by
   unfold cut1
   split
   ·split<;>split<;>split<;>omega
   ·rfl
  omega
theorem Fw.le {L:Int}{p i:Nat}(f:Fw cs p L ss)(ea:ss[i]?=Za a)(ap:a.1=p):cutS cs p a.2.2 ss<=L:=by
 have hi:=(Zo.mp ea).1
 have e:ss=ss.take i++a::ss.drop (i+1):=by rw[<- (Zo.mp ea).2,<-Za2 hi,List.take_append_drop]
 have pw:=f.pw
 rw[e] at pw
 have z:=Jm4 (cs:=cs) (p:=p) (L:=a.2.2) _ (Zbz.mp (Zci.mp pw).2.1).1
 have own:cut1 cs p a.2.2 a=0:=by
  unfold cut1
  rw[ap]
  exact if_neg (Int.lt_irrefl _)
 have s1:=f.sm
 have nn:=Jvx (q:=p) (l:=ss.drop (i+1)) λ b hb=>f.ps b (ZcV hb)
 have pos:=f.ps a (Zb5 ea)
 have lt:sumP p (ss.take i)<lnN cs p:=by
  rw[<- s1]
  conv=>rhs;rw[e]
  rw[Jnp,VN,if_pos ap]
  omega
 have:=f.wc i hi lt
 have cl:=Ju9 (cs:=cs) (p:=p) (L:=a.2.2) (ss.take i)
 have:cutS cs p a.2.2 ss=cutS cs p a.2.2 (ss.take i)+(cut1 cs p a.2.2 a+cutS cs p a.2.2 (ss.drop (i+1))):=by
  conv=>lhs;rw[e]
  unfold cutS
  rw[Zbi,List.sum_append,Z6,Zd0]
 omega
section
seal L4.run L4.WS
def tn (b:Hd):Int:=b.2.2-b.2.1-1
def prV (p:Nat×Hd):IV:=.tup [.int (p.1:Int),tupH p.2]
def kfV (v:IV):Int:=match v with
 | .tup [_,.tup [_,.int s,.int e]]=>e-s-1
 | _=>0
theorem Jwn (l:List (Nat×Hd)):(l=[]/\Yb kfV .non (l.map prV)=.non)∨∃p∈l,Yb kfV .non (l.map prV)=prV p/\∀p'∈l,tn p'.2<=tn p.2:=by
 cases l with
 | nil=>exact .inl ⟨rfl,rfl⟩
 | cons p0 r =>
  refine .inr ?_
  rw[Z6]
  show ∃p∈p0::r,Qz kfV (prV p0) (r.map prV)=prV p/\_
  obtain⟨h1,h2⟩:=Jg1 kfV (r.map prV) (prV p0)
  have key:∀p,Qz kfV (prV p0) (r.map prV)=prV p->∀p'∈p0::r,tn p'.2<=tn p.2:=λ p e p' hp'=>by
   rw[e] at h1 h2
   rcases Z7.mp hp' with rfl|hp'
   ·exact h1
   ·exact h2 _ (Z3.mpr ⟨p',hp',rfl⟩)
  rcases Jfg kfV (r.map prV) (prV p0) with e|e
  ·exact⟨p0,Z4,e,key p0 e⟩
  ·obtain⟨p,hp,e⟩:=Z3.mp e
   exact⟨p,Zn _ hp,e.symm,key p e.symm⟩
def stB (hss:List (List Hd))(a:Nat)(b:Hd):Bool:=decide (fZ hss b.1<=a)
def stV (hss:List (List Hd))(a:Nat)(v:IV):Bool:=match v with
 | .tup [.str x,.int s,.int e]=>stB hss a (x,s,e)
 | _=>Zk
def J0q (o:Int)(v:IV):IV:=.tup [.int o,v]
theorem Jrs (hss:List (List Hd))(a o:Nat):∀hs:List Hd,((hs.map tupH).filter (stV hss a)).map (J0q (o:Int))=((hs.filter (stB hss a)).map λ b=>(o,b)).map prV
 | []=>rfl
 | b::hs=>by
  rw[Z6,ZbP,ZbP]
  have e:stV hss a (tupH b)=stB hss a b:=rfl
  rw[e]
  split
  ·rw[Z6,Z6,Z6,Jrs hss a o hs]
   rfl
  ·exact Jrs hss a o hs
def Ge (rs:List RH)(a hi:Nat)(z:Int):Prop:=0<=z/\∀w r,a<w->w<hi->rs[w]?=Za r->∀b∈r.2,fZ (rs.map (·.2)) b.1<=a->tn b<=z
section
variable {k:Nat}{h:IH}
theorem Jv4 (b:Hd):Ja7 (k+1) [tupH b] h=.ok (.int (tn b)) h:=Ju (by rw[Jjf];exact xfin (xret (Je (subE (subE (ixtE rfl rfl Qm) (ixtE rfl rfl JX)) rfl) ⟨rfl,rfl⟩)))
theorem Jys {gt:IV->IV->Option Bool}{js:List Nat}{m:E1}{d:IV}{Q:IV->IH->Prop}(hj:h[j]?=Za (.tab q))(hi:σ[i]?=Za (Za (.ref a))) :
  WR (Yh gt q j js (Jb (Ja i) Jd) m (eC d) σ h) Q=WR (X1 gt (λ v h'=>m (Za v::js.map λ j=>(σ[j]?).join) h') a d h) Q:=by
 have e:Jb (Ja i) Jd σ h=.ok [.ref a] h:=by
  unfold Jb Ja Jd
  rw[hi]
  rfl
 unfold Yh
 rw[e]
 show WR (match h[j]? with|some (.tab q')=>_|_=>_) Q=_
 rw[hj]
 dsimp only
 rw[if_pos rfl]
 rfl
theorem Jow {D a:Nat}{rs:List RH}(ha:a<rs.length)(hd:IsDu h D rs)(few:rs.length<=12)(six:∀r∈rs,r.2.length<=6)(h0:h[1]?=Za (.tab "longest_hold")) :
  WR (Jbj (k+3) [.ref D,.int (a:Int)] h) λ v h'=>(∃F:List (Nat×Hd),v=Yb kfV .non (F.map prV)/\(∀x∈F,∃r∈rs,x.2∈r.2)/\∀w r,a<w->rs[w]?=Za r->∀b∈r.2,fZ (rs.map (·.2)) b.1<=a->∃x∈F,x.2=b)/\Ex h h':=by
 have hb:=J2
 obtain⟨vs,gD,w⟩:=hd
 obtain⟨_,h1,e1,t,kvs,rfl,gt,tv,x1⟩:=(Jg2 (k:=k) gD w few six).eq
 have gD1:=x1.get gD
 have w1:=w.kp x1.kp
 have wl:=w.len
 rw[Jha]
 refine xfin (xseq (xset (Je (JY (arg1 rfl) e1) (xseq (xset (Je rfl (xseq (xfor ?_))))))))
 rw[V5]
 refine Je (arg2 (addE rfl rfl) (dotE rfl (grow gD1) dls (Jcz _) rfl (Jg5 (grow gD1)))) ?_
 rw[YQ]
 refine⟨by omega,?_⟩
 refine Qv (λ m σ h'=>∃(F:List (Nat×Hd))(c:Option IV),σ=[Za (.ref D),Za (.int (a:Int)),Za (.ref t),Za (.ref h1.length),c]/\h'[h1.length]?=Za (.lst (F.map prV))/\Kp h1 h'/\F.length<=6*m/\(∀x∈F,∃r∈rs,x.2∈r.2)/\∀w r,a<w->w<a+1+m->rs[w]?=Za r->∀b∈r.2,fZ (rs.map (·.2)) b.1<=a->∃x∈F,x.2=b) (λ _ _ _ _=>trivial) ?_ ?_ ⟨[],Zc,rfl,Jk,(Ex.one _ _).kp,Zq _,(λ x hx=>by cases hx),λ w r l1 l2=>by omega⟩
 ·rintro n hn _ h2 ⟨F,c,rfl,g2,k2,lf,sub,all⟩
  rw[V3]
  rw[Qj] at hn
  have hn':a+1+n<rs.length:=by omega
  rw[show(a:Int)+1+(n:Int)=((a+1+n:Nat):Int) by push_cast;omega]
  have er:rs[a+1+n]?=Za rs[a+1+n]:=Zb hn'
  have mr:=Z5 hn'
  generalize rs[a+1+n]=r at er mr
  obtain⟨j,ej,gj⟩:=w1.get er
  have av:atI vs ((a+1+n:Nat):Int)=Za (.ref j):=JI ej
  have l6:=six r mr
  obtain⟨_,_,e3,rfl,gg,rfl⟩:=(YD (it:=Jw (Jo (pg (k+2)) "held" 0 (Jo (pg (k+2)) "work" 1 (Ja 0) (Jb (Ja 4) Jd)) Jd)) (js:=[1,2,4]) (t:=Jaf (k+2)) (e:=Ja9 (k+2)) (σ:=[Za (.ref D),Za (.int (a:Int)),Za (.ref t),Za (.ref h1.length),Za (.int ((a+1+n:Nat):Int))]) (h0:=h2) (h:=h2++[IX.lst (r.2.map tupH)]) (xs:=r.2.map tupH) (chk:=λ h'=>h'[h2.length]?=Za (.lst (r.2.map tupH))) (p:=stV (rs.map (·.2)) a) (f:=J0q ((a+1+n:Nat):Int))
   (by
    rw[JW]
    exact Je (dotE (wkE (k2 _ _ gD1) rfl rfl av) (k2 _ _ gj) flh (Jbg _) rfl (Jfb (k2 _ _ gj))) ((JN _).mpr ⟨_,Jk,rfl,rfl,rfl⟩)) (by rw[Zj];omega) (λ h3 q=>q _ _ Jk) (by
    intro v hv h3 q
    obtain⟨b,hb',rfl⟩:=Z3.mp hv
    have z:=tv b.1
    have gt3:h3[t]?=Za (.dct kvs):=q _ _ (grow (k2 _ _ gt))
    cases em:fstK (rs.map (·.2)) b.1 with
    | none =>
     unfold fstK at em
     rw[Zb1] at em
     have:=em r.2 (Z3.mpr ⟨r,mr,rfl⟩)
     exact absurd (show has b.1 r.2=Zh from ZbM.mpr ⟨b,hb',decide_eq_true rfl⟩) (by rw[this];exact Zt)
    | some m =>
     rw[em] at z
     have ev:valI kvs (.inr b.1)=Za (.int (m:Int)):=by
      cases w:valI kvs (.inr b.1) with
      | none=>rw[w] at z;cases z
      | some v'=>rw[w] at z;exact congrArg Za z
     have fz:fZ (rs.map (·.2)) b.1=m:=by unfold fZ;rw[em]
     unfold Jaf
     refine Je (leE ((binE rfl (ixtE rfl rfl JP)).trans (Ju (by rw[Jsb gt3 ev];exact⟨rfl,rfl⟩))) rfl) ⟨?_,.refl _⟩
     show decide ((m:Int)<=a)=decide (fZ (rs.map (·.2)) b.1<=a)
     rw[fz]) (by
    intro v hv _ h3 q
    exact Je (tupE (arg2 rfl rfl) rfl) ⟨rfl,.refl _⟩)).eq
  have lr:=Zbl (stB (rs.map (·.2)) a) r.2
  rw[Jrs] at e3
  have G':∀{i:Nat}{o o':IX}{g:IH},h2[i]?=Za o->(h2++[IX.lst (r.2.map tupH)]++o'::g)[i]?=Za o:=λ e=>(Ex.cons _ _ _).get (grow e)
  refine xnx rfl (Q7 (Va rfl g2 Jpt (Je (arg1 e3) ?_)))
  rw[Jr9 (xs:=F.map prV) (G' g2) J4 (by rw[Zj,Zj,Zj];omega),<-Zbi]
  refine⟨_,_,rfl,QH (G' g2),λ j o e=>J9 (G' (k2 _ _ e)) (by have:=JB e;omega),by rw[Zx,Zj];omega,λ x hx=>?_,λ w r' l1 l2 e b hb' fb=>?_⟩
  ·rcases ZL.mp hx with hx|hx
   ·exact sub x hx
   ·obtain⟨b,hb',rfl⟩:=Z3.mp hx
    exact⟨r,mr,(Zau.mp hb').1⟩
  ·by_cases ew:w=a+1+n
   ·subst ew
    rw[er] at e
    cases e
    exact⟨(a+1+n,b),Zi _ (Z3.mpr ⟨b,Zau.mpr ⟨hb',decide_eq_true fb⟩,rfl⟩),rfl⟩
   ·obtain⟨x,hx,ex⟩:=all w r' l1 (by omega) e b hb' fb
    exact⟨x,Zah _ hx,ex⟩
 ·rintro _ h2 ⟨F,c,rfl,g2,k2,lf,sub,all⟩
  rw[Qj] at all
  have x2:=x1.trans (Jsv k2)
  refine xret ?_
  rw[Jys (x2.get h0) rfl]
  refine WR.mono (Juv (kf:=kfV) g2 ?_) ?_
  ·intro v hv h3 x3
   obtain⟨p,hp,rfl⟩:=Z3.mp hv
   exact Je (JY (arg1 (ixtE rfl rfl JX)) (Jv4 p.2)) ⟨rfl,.refl _⟩
  ·rintro v h3 ⟨rfl,x3⟩
   exact⟨⟨F,rfl,sub,λ w r l1 e=>all w r l1 (by have:=(Zo.mp e).1;omega) e⟩,x2.trans x3⟩
theorem Jop {rs:List RH}(ha:a<rs.length)(hd:IsDu h D rs)(few:rs.length<=12)(six:∀r∈rs,r.2.length<=6)(pos:∀r∈rs,∀b∈r.2,b.2.1<b.2.2)(h0:h[1]?=Za (.tab "longest_hold")) :
  WR (Jgl (k+4) [.ref D,.int (a:Int)] h) λ v h'=>(∃z,v=.int z/\Ge rs a rs.length z)/\Ex h h':=by
 rw[Joj]
 obtain⟨_,h1,e1,⟨F,rfl,sub,all⟩,x1⟩:=(Jow (k:=k) (a:=a) ha hd few six h0).eq
 refine xfin (xseq (xset (Je (JY (arg2 rfl rfl) e1) (xret ?_))))
 rcases Jwn F with⟨e,e2⟩|⟨p,hp,e2,mx⟩
 ·rw[e2]
  refine xeif (Je rfl ⟨λ _=>Je rfl ⟨⟨0,rfl,Zay _,λ w r l1 l2 ew b hb fb=>?_⟩,x1⟩,λ z=>by cases z⟩)
  obtain⟨x,hx,_⟩:=all w r l1 ew b hb fb
  rw[e] at hx
  cases hx
 ·rw[e2]
  refine xeif (Je rfl ⟨(λ z=>by cases z),λ _=>Je (JY (arg1 (ixtE rfl rfl JX)) (Jv4 p.2)) ⟨⟨_,rfl,?_,λ w r l1 l2 ew b hb fb=>?_⟩,x1⟩⟩)
  ·obtain⟨r,hr,hb⟩:=sub p hp
   have:=pos r hr _ hb
   unfold tn
   omega
  ·obtain⟨x,hx,rfl⟩:=all w r l1 ew b hb fb
   exact mx x hx
end
end
section
seal L4.run L4.WS
def stU (v:IV):ISt:=match v with
 | .tup [a,b,c]=>[Za a,Za b,Za c]
 | _=>[]
theorem Jsw {rs:List RH}{a:Nat}{r:RH}(hr:r∈rs){b:Hd}(hb:b∈r.2)(f:fZ (rs.map (·.2)) b.1<=a):∃j r',j<a+1/\rs[j]?=Za r'/\∃b'∈r'.2,b'.1=b.1:=by
 cases e:fstK (rs.map (·.2)) b.1 with
 | none =>
  unfold fstK at e
  rw[Zb1] at e
  have:=e r.2 (Z3.mpr ⟨r,hr,rfl⟩)
  exact absurd (show has b.1 r.2=Zh from ZbM.mpr ⟨b,hb,decide_eq_true rfl⟩) (by rw[this];exact Zt)
 | some j =>
  have fz:fZ (rs.map (·.2)) b.1=j:=by unfold fZ;rw[e]
  obtain⟨hj,q,_⟩:=Zc5.mp e
  rw[Zj] at hj
  rw[Zag] at q
  obtain⟨b',h1,h2⟩:=ZbM.mp q
  exact⟨j,rs[j],by omega,Zb hj,b',h1,of_decide_eq_true h2⟩
section
variable {k:Nat}{h:IH}
theorem Jum {q:Nat}{hs:List Hd}{e:E1}{σ:ISt}(ee:e σ h=.ok (.ref q) h)(gq:h[q]?=Za (.lst (hs.map tupH)))(l6:hs.length<=6):∃gg,Jz (Jw e) 3 [] (gTp 3 (gC (gNm 0) (gC (gNm 1) (gC (gNm 2) gN)))) JC (Jaj k) σ h=.ok (.ref h.length) (h++.lst ((hs.map (·.1)).map .str)::gg):=by
 have hb:=J2
 obtain⟨_,_,e1,rfl,gg,rfl⟩:=(Jnx (it:=Jw e) (g:=gTp 3 (gC (gNm 0) (gC (gNm 1) (gC (gNm 2) gN)))) (t:=JC) (e:=Jaj k) (js:=[]) (σ:=σ) (h0:=h) (h:=h) (xs:=hs.map tupH) (chk:=λ h'=>h'[q]?=Za (.lst (hs.map tupH))) (n:=3) (st:=stU) (p:=λ _=>Zh) (f:=frs)
  (by rw[JW];exact Je ee ((JN _).mpr ⟨_,gq,rfl,rfl,rfl⟩)) (by rw[Zj];omega) (λ h3 z=>z _ _ gq) (by
   intro x hx ls h3 l2
   obtain⟨a,_,rfl⟩:=Z3.mp hx
   match ls,l2 with
   | [a,b,c],_=>exact⟨rfl,rfl⟩) (λ x hx h3 q=>⟨rfl,.refl _⟩) (by
   intro x hx _ h3 q
   obtain⟨a,_,rfl⟩:=Z3.mp hx
   exact⟨rfl,.refl _⟩)).eq
 refine⟨gg,e1.trans ?_⟩
 rw[List.filter_eq_self.mpr λ _ _=>rfl,ZaD,ZaD]
 rfl
theorem sll (ee:e σ h=.ok (.ref S) h)(gS:h[S]?=Za (.lst ys))(el:lo σ h=.ok l h)(eu:hi σ h=.ok u h):eSl slI e lo hi σ h=.ok (.ref h.length) (h++[.lst (cutI ys l u)]):=Ju ((V8 ..).mpr (Je ee (Je el (Je eu ((YR ..).mpr ⟨_,gS,rfl,rfl⟩)))))
theorem Jdl {S a lo:Nat}{ys:List IV}{rs:List RH}(gS:h[S]?=Za (.lst ys))(w:RowT h lo ys rs)(few:rs.length<=12)(six:∀r∈rs,r.2.length<=6)(nm:∀r∈rs,∀b∈r.2,IsNm b.1)(ha:a<rs.length) :
  WR (Jbu (k+1) [.ref S,.int (a:Int)] h) λ v h'=>(∃z,v=.int z/\Ge rs a rs.length z)/\Ex h h':=by
 have hb:=J2
 have wl:=w.len
 have oS:∀{σ:ISt}{h1:IH},σ[1]?=Za (Za (.int (a:Int)))->Qg (Jc Jl (Ja 1) (eC (.int 1))) σ h1=.ok (Za ((a+1:Nat):Int)) h1:=λ {σ h1} e=>by
  have e2:Jc Jl (Ja 1) (eC (.int 1)) σ h1=.ok (.int (((a+1:Nat):Int))) h1:=addE (i:=(a:Int)) (j:=1) (by unfold Ja;rw[e]) rfl
  unfold Qg
  rw[e2]
  rfl
 rw[Jh6]
 refine xfin (xseq (xset (Je rfl (xseq (xfor ?_)))))
 have x1:Ex h (h++[.lst []]):=.one _ _
 have g1:(h++[IX.lst []])[h.length]?=Za (.lst []):=Jk
 generalize h++[IX.lst []]=h1 at x1 g1
 rw[JW]
 refine Je (sll rfl (x1.get gS) rfl (oS rfl)) ((JN _).mpr ⟨_,Jk,?_⟩)
 rw[Ji5]
 have x2:Ex h1 (h1++[.lst (ys.take (a+1))]):=.one _ _
 have g2:(h1++[IX.lst (ys.take (a+1))])[h1.length]?=Za (.lst (ys.take (a+1))):=Jk
 generalize h1++[IX.lst (ys.take (a+1))]=h2 at x2 g2
 have x12:=x1.trans x2
 refine Qv (λ n σ h'=>∃(t:Nat)(zs:List Str)(c:Option IV),σ=[Za (.ref S),Za (.int (a:Int)),Za (.ref t),c,Zc,Zc,Zc,Zc]/\Ex h2 h'/\h'[t]?=Za (.lst (zs.map .str))/\zs.length<=6*n/\(∀z∈zs,IsNm z)/\∀i r,i<n->rs[i]?=Za r->∀b∈r.2,b.1∈zs) (λ _ _ _ ⟨_,_,_,_,x,_⟩=>x.get g2) ?_ ?_ ⟨h.length,[],Zc,rfl,.refl _,x2.get g1,Zq _,(λ z hz=>by cases hz),λ i r l=>by omega⟩
 ·rintro n hn _ h3 ⟨t,zs,c,rfl,x3,gt,lz,nz,all⟩
  have hn:n<(ys.take (a+1)).length:=hn
  rw[ZaV] at hn
  have er:rs[n]?=Za (rs[n]'(by omega)):=Zb (by omega)
  have mr:rs[n]'(by omega)∈rs:=Z5 _
  rw[List.getElem_take]
  generalize rs[n]'(by omega)=r at er mr
  obtain⟨q,ey,gq⟩:=w.get er
  rw[(Zo.mp ey).2]
  have l6:=six r mr
  have gq3:=x3.get (x12.get gq)
  refine xnx rfl ?_
  obtain⟨gg,e4⟩:=Jum (k:=k) (e:=Jc Jf (Ja 3) (eC (.int 5))) (σ:=[Za (.ref S),Za (.int (a:Int)),Za (.ref t),Za (tp6 r q),Zc,Zc,Zc,Zc]) (ixtE rfl rfl Jsl) gq3 l6
  refine xset (xb (Je rfl (xb (Je e4 ((Jj2 ..).mpr ⟨_,(Ex.cons _ _ _).get gt,_,J4,by rw[Zj,Zj,Zj];omega,?_⟩)))))
  refine⟨_,zs++r.2.map (·.1),_,rfl,x3.trans ((Ex.cons _ _ _).trans (.one _ _)),?_,by rw[Zx,Zj];omega,λ z hz=>?_,λ i r' l e b hb'=>?_⟩
  ·rw[Jk,Zbi]
  ·rcases ZL.mp hz with hz|hz
   ·exact nz z hz
   ·obtain⟨b,hb',rfl⟩:=Z3.mp hz
    exact nm r mr b hb'
  ·by_cases ei:i=n
   ·subst ei
    rw[er] at e
    cases e
    exact Zi _ (Z3.mpr ⟨b,hb',rfl⟩)
   ·exact Zah _ (all i r' (by omega) e b hb')
 ·rintro _ h3 ⟨t,zs,c,rfl,x3,gt,lz,nz,all⟩
  have all:∀i r,i<a+1->rs[i]?=Za r->∀b∈r.2,b.1∈zs:=λ i r l e=>all i r (by show i<(ys.take (a+1)).length;rw[ZaV];omega) e
  have x03:=x12.trans x3
  refine xseq (xset (Je rfl (xseq (xfor ?_))))
  rw[JW]
  refine Je (sll rfl (x03.get gS) (oS rfl) rfl) ((JN _).mpr ⟨_,Jk,?_⟩)
  rw[Ji4]
  have x4:Ex h3 (h3++[.lst (ys.drop (a+1))]):=.one _ _
  have g4:(h3++[IX.lst (ys.drop (a+1))])[h3.length]?=Za (.lst (ys.drop (a+1))):=Jk
  generalize h3++[IX.lst (ys.drop (a+1))]=h4 at x4 g4
  have gt4:=x4.get gt
  refine Qv (λ n σ h'=>h4=h'/\∃z c c5 c6 c7,σ=[Za (.ref S),Za (.int (a:Int)),Za (.ref t),c,Za (.int z),c5,c6,c7]/\Ge rs a (a+1+n) z) (λ _ _ _ ⟨e,_⟩=>e▸g4) ?_ ?_ ⟨rfl,0,_,_,_,_,rfl,Zay _,λ w r l1 l2=>by omega⟩
  ·rintro n hn _ _ ⟨rfl,z,c,c5,c6,c7,rfl,z0,ge⟩
   have hn:n<(ys.drop (a+1)).length:=hn
   rw[ZbI] at hn
   have er:rs[a+1+n]?=Za (rs[a+1+n]'(by omega)):=Zb (by omega)
   have mr:rs[a+1+n]'(by omega)∈rs:=Z5 _
   rw[List.getElem_drop]
   generalize rs[a+1+n]'(by omega)=r at er mr
   obtain⟨q,ey,gq⟩:=w.get er
   rw[(Zo.mp ey).2]
   have gq4:=x4.get (x03.get gq)
   refine xnx rfl (xfor ?_)
   rw[JW]
   refine Je (ixtE rfl rfl Jsl) ((JN _).mpr ⟨_,gq4,?_⟩)
   refine Qv (λ m σ h'=>h4=h'/\∃z' c5 c6 c7,σ=[Za (.ref S),Za (.int (a:Int)),Za (.ref t),Za (tp6 r q),Za (.int z'),c5,c6,c7]/\z<=z'/\∀b∈r.2.take m,fZ (rs.map (·.2)) b.1<=a->tn b<=z') (λ _ _ _ ⟨e,_⟩=>e▸gq4) ?_ ?_ ⟨rfl,z,_,_,_,rfl,Zay _,λ b hb'=>by cases hb'⟩
   ·rintro m hm _ _ ⟨rfl,z',c5,c6,c7,rfl,le,up⟩
    have hm:m<r.2.length:=by simpa using hm
    have hx:=Z5 hm
    have tk:∀b∈r.2.take (m+1),b∈r.2.take m∨b=r.2[m]:=λ b hb'=>by
     rw[ZaC hm] at hb'
     rcases ZL.mp hb' with h|h
     ·exact .inl h
     ·exact .inr (Zv.mp h)
    rw[Zag]
    generalize r.2[m]=x at hx tk
    refine xnx rfl (xif (Je (tofE ((binE rfl rfl).trans (Jxd gt4 nz (nm r mr x hx)))) ⟨λ _=>xset (Je (maxE rfl (subE (subE rfl rfl) rfl)) ⟨rfl,_,_,_,_,rfl,?_,λ b hb' fb=>?_⟩),λ no=>xnil ⟨rfl,_,_,_,_,rfl,le,λ b hb' fb=>?_⟩⟩))
    ·split<;>omega
    ·rcases tk b hb' with h|rfl
     ·have:=up b h fb
      split<;>omega
     ·unfold tn
      split<;>omega
    ·rcases tk b hb' with h|rfl
     ·exact up b h fb
     ·obtain⟨j,r',lj,ej,b',hb2,e⟩:=Jsw mr hx fb
      have:=all j r' lj ej b' hb2
      rw[e] at this
      exact absurd (ZbM.mpr ⟨_,this,decide_eq_true rfl⟩) (by rw[no];exact Zt)
   ·rintro _ _ ⟨rfl,z',c5,c6,c7,rfl,le,up⟩
    rw[Zj,ZdE] at up
    refine⟨rfl,z',_,_,_,_,rfl,by omega,λ w r' l1 l2 e b hb' fb=>?_⟩
    by_cases ew:w=a+1+n
    ·subst ew
     rw[er] at e
     cases e
     exact up b hb' fb
    ·have:=ge w r' l1 (by omega) e b hb' fb
     omega
  ·rintro _ _ ⟨rfl,z,c,c5,c6,c7,rfl,z0,ge⟩
   refine xret (Je rfl ⟨⟨z,rfl,z0,λ w r l1 l2=>ge w r l1 ?_⟩,x03.trans x4⟩)
   show w<a+1+(ys.drop (a+1)).length
   rw[ZbI]
   omega
theorem xaug (e1:Ja i σ h=.ok (.int a) h)(e2:e σ h=.ok (.int b) h1)(q:N (σ.set i (Za (.int (a+b)))) h1):WS (sAug .Add i e σ h) N R:=by
 unfold sAug
 rw[e1]
 simp only[rS,e2,L4.ipI]
 exact J3w q
theorem Jrz (f:Nat->Int):∀(n:Nat),0<n->∃j,j<n/\JJ f n=f j
 | 0,h=>by omega
 | 1,_=>⟨0,by omega,rfl⟩
 | n+2,_=>by
  rw[Jdb f (by omega:0<n+1)]
  obtain⟨j,hj,e⟩:=Jrz f (n+1) (by omega)
  split
  ·exact⟨n+1,by omega,rfl⟩
  ·exact⟨j,by omega,e⟩
def isP (p:Nat)(v:IV):Bool:=match v with
 | .tup [.int x,_,_]=>decide (x=p)
 | _=>Zk
theorem Jp2 {p n:Nat}{L:Int}{l:List St3}(e:l[n]?=Za a):cutS cs p L (l.take (n+1))=cutS cs p L (l.take n)+cut1 cs p L a:=by
 obtain⟨hn,rfl⟩:=Zo.mp e
 unfold cutS
 rw[ZaC hn,Zbi,List.sum_append]
 show _+(_+0)=_
 omega
theorem Jr4 {R F p:Nat}{cs:List Cm}{ss:List St3}(gR:h[R]?=Za (.lst (cs.map tupC)))(gF:h[F]?=Za (.lst (ss.map tupS)))(lp:p<cs.length)(lt:∀a∈ss,a.1<cs.length)(sn:ss.length<=100000)(own:∃a∈ss,a.1=p) :
  WR (Jci (k+1) [.ref R,.ref F,.int (p:Int)] h) λ v h'=>(∃a∈ss,a.1=p/\v=.int (cutS cs p a.2.2 ss))/\Ex h h':=by
 have hb:=J2
 rw[Jje]
 refine xfin (xseq (xset (Je (addE (ixtE (ixlE rfl rfl gR (Vv lp)) rfl JX) (ixtE (ixlE rfl rfl gR (Vv lp)) rfl Qm)) (xseq (xset ?_)))))
 obtain⟨_,_,e1,rfl,gg,rfl⟩:=(Jnx (it:=Jw (Ja 1)) (g:=gTp 3 (gC (gNm 0) (gC (gNm 1) (gC (gNm 2) gN)))) (t:=Jce k) (e:=Jcd k) (js:=[2]) (σ:=[Za (.ref R),Za (.ref F),Za (.int (p:Int)),Za (.int (rdN cs p)),Zc,Zc,Zc,Zc,Zc]) (h0:=h) (h:=h) (xs:=ss.map tupS) (chk:=λ h'=>h'[F]?=Za (.lst (ss.map tupS))) (n:=3) (st:=stU) (p:=isP p) (f:=enF)
  (by rw[JW];exact Je rfl ((JN _).mpr ⟨_,gF,rfl,rfl,rfl⟩)) (by rw[Zj];omega) (λ h3 z=>z _ _ gF) (by
   intro x hx ls h3 l2
   obtain⟨a,_,rfl⟩:=Z3.mp hx
   match ls,l2 with
   | [a,b,c],_=>exact⟨rfl,rfl⟩) (by
   intro x hx h3 q
   obtain⟨a,_,rfl⟩:=Z3.mp hx
   exact Je (eqE rfl rfl) ⟨rfl,.refl _⟩) (by
   intro x hx _ h3 q
   obtain⟨a,_,rfl⟩:=Z3.mp hx
   exact Je rfl ⟨rfl,.refl _⟩)).eq
 have em:((ss.map tupS).filter (isP p)).map enF=((ss.filter λ a=>isP p (tupS a)).map (·.2.2)).map IV.int:=by
  rw[List.filter_map,ZaD,ZaD]
  rfl
 rw[em] at e1
 obtain⟨b,hb1,rfl⟩:=own
 have mb:b∈ss.filter λ a=>isP b.1 (tupS a):=Zau.mpr ⟨hb1,decide_eq_true rfl⟩
 have nf:(ss.filter λ a=>isP b.1 (tupS a)).map (·.2.2)≠[]:=Zdr (Z3.mpr ⟨b,mb,rfl⟩)
 obtain⟨j,hj,ej⟩:=Jrz (λ i=>((ss.filter λ a=>isP b.1 (tupS a)).map (·.2.2)).getD i 0) ((ss.filter λ a=>isP b.1 (tupS a)).map (·.2.2)).length (List.length_pos_iff.mpr nf)
 have mj:=Jsy hj
 rw[<- ej] at mj
 obtain⟨a,ha,ea⟩:=Z3.mp mj
 obtain⟨ha,pa⟩:=Zau.mp ha
 have pa:a.1=b.1:=Int.ofNat.inj (of_decide_eq_true pa)
 refine Je ((cbE (arg1 e1)).trans (Ju (by rw[Xj,Jsf J4 nf,<-ea];exact⟨rfl,rfl⟩))) (xseq (xset (Je rfl (xseq (xfor ?_)))))
 have x1:Ex h (h++IX.lst (((ss.filter λ a=>isP b.1 (tupS a)).map (·.2.2)).map IV.int)::gg):=.cons _ _ _
 generalize h++IX.lst (((ss.filter λ a=>isP b.1 (tupS a)).map (·.2.2)).map IV.int)::gg=h1 at x1
 have gR1:=x1.get gR
 have gF1:=x1.get gF
 rw[JW]
 refine Je rfl ((JN _).mpr ⟨_,gF1,?_⟩)
 refine Qv (λ n σ h'=>h1=h'/\∃c6 c7 c8,σ=[Za (.ref R),Za (.ref F),Za (.int (b.1:Int)),Za (.int (rdN cs b.1)),Za (.int a.2.2),Za (.int (cutS cs b.1 a.2.2 (ss.take n))),c6,c7,c8]) (λ _ _ _ ⟨e,_⟩=>e▸gF1) ?_ ?_ ⟨rfl,_,_,_,rfl⟩
 ·rintro n hn _ _ ⟨rfl,c6,c7,c8,rfl⟩
  have hn:n<ss.length:=by simpa using hn
  have st:=Jp2 (cs:=cs) (p:=b.1) (L:=a.2.2) (Zb hn)
  have lx:=lt _ (Z5 hn)
  rw[Zag]
  generalize ss[n]=x at st lx
  refine xnx rfl (xifd (gtE (ixtE (ixlE rfl rfl gR1 (Vv lx)) rfl JP) (ixtE (ixlE rfl rfl gR1 (Vv lp)) rfl JP)) (λ l=>?_) λ l=>?_)
  ·refine xaug rfl (maxE rfl (subE (minE rfl rfl) (maxE rfl rfl))) ⟨rfl,Za (.int (x.1:Int)),Za (.int x.2.1),Za (.int x.2.2),?_⟩
   rw[st,cut1,if_pos (show atN cs b.1<atN cs x.1 from l)]
   rfl
  ·refine xnil ⟨rfl,Za (.int (x.1:Int)),Za (.int x.2.1),Za (.int x.2.2),?_⟩
   rw[st,cut1,if_neg (show ¬atN cs b.1<atN cs x.1 from l),Int.add_zero]
   rfl
 ·rintro _ _ ⟨rfl,c6,c7,c8,rfl⟩
  rw[Zj,ZdE]
  exact xret (Je rfl ⟨⟨a,ha,pa,rfl⟩,x1⟩)
end
end
section
seal L4.run L4.WS
section
variable {k:Nat}{h:IH}
def DW (h1:IH)(x y:IV)(h':IH):Prop:=∀(r:RH)(q:Nat),x=tp6 r q->h1[q]?=Za (.lst (r.2.map tupH))->∃w:Nat,y=IV.ref w/\w≠h1.length/\h'[w]?=Za (wo r)
theorem Jup (ee:e σ h=.ok (.ref S) h)(G:Gd unit rs)(gS:h[S]?=Za (.lst ys))(w:RowT h lo ys rs) :
  ∃h',Jz (Jw e) 1 [] (gNm 0) JC (Jes (k+5)) σ h=.ok (.ref h.length) h'/\∃vs,h'[h.length]?=Za (.lst vs)/\AllH h' vs rs/\Kp h h':=by
 have hb:=J2
 have few:=G.few
 have wl:=w.len
 obtain⟨v,h3,ev,rfl,vs,gv,lv,k3,dv⟩:=(Jur (it:=Jw e) (e:=Jes (k+5)) (js:=[]) (σ:=σ) (h0:=h) (h:=h) (xs:=ys) (chk:=λ h'=>h'[S]?=Za (.lst ys)) (DW h)
  (by rw[JW];exact Je ee ((JN _).mpr ⟨_,gS,rfl,rfl,rfl⟩)) (by omega) (by
   intro x y h2 h3 kb dd r q e g
   obtain⟨w,e1,e2,e3⟩:=dd r q e g
   exact⟨w,e1,e2,kb _ _ e2 e3⟩) (λ h2 q=>q _ _ gS) (by
   intro x hx h2 k2 l2
   obtain⟨n,hn,rfl⟩:=Zam.mp hx
   have hn':n<rs.length:=by omega
   obtain⟨q,ey,_,gq⟩:=w.at_ n _ _ (Zb hn) (Zb hn')
   have f8:=G.f _ (Z5 hn')
   have u1:=G.u1
   rw[ey]
   generalize rs[n]=r at gq f8
   have f1:=f8.g1
   have gq2:=k2 _ _ gq
   have a5:atI (IV.str r.1.name::tp5 r q) 5=Za (.ref q):=Jsl
   unfold Jes
   rw[VR]
   refine Je (argC (ixtE rfl rfl JP) (argC (ixtE rfl rfl JX) (argC (ixtE rfl rfl Qm) (argC (ixtE rfl rfl Qy) (argC (ixtE rfl rfl Vf) (arg1 (Jz6 (ixtE rfl rfl a5) gq2))))))) ?_
   generalize hs':r.2.map tupH=hs
   refine WR.mono (Jxk (k:=k) (hs:=hs) f8.nm (by omega) f8.l1 f8.t1 (λ h1=>Jo4 f8.d1 f8.d2) λ h1 z=>hs'▸Jla (z _ _ (by rw[hs'];exact Jk)) f8.ok) ?_
   rintro _ h3 ⟨rfl,g,rfl⟩
   refine⟨rfl,(Ex.one _ _).trans (.cons _ _ _),λ r' q' e' g'=>⟨_,rfl,by rw[Zx];omega,?_⟩⟩
   have e':tp6 r q=tp6 r' q':=e'
   simp only[tp6,tp5,IV.tup.injEq,Zda,IV.str.injEq,IV.int.injEq,IV.ref.injEq,and_true] at e'
   obtain⟨e1,e2,e3,e4,e5,rfl⟩:=e'
   rw[gq] at g'
   have g':r.2.map tupH=r'.2.map tupH:=by simpa using g'
   rw[<- hs',g']
   unfold wo
   rw[<- e1,<-e2,<-e3,<-e4,<-e5]
   exact J4)).eq
 refine⟨h3,ev,vs,gv,⟨by omega,λ i v r a b=>?_⟩,k3⟩
 obtain⟨q,ey,gq⟩:=w.get b
 obtain⟨W,e1,_,e3⟩:=dv i _ _ ey a r q rfl gq
 exact⟨W,e1,e3⟩
theorem Jrw:∀{l:List St3},sumP p l≠0->∃a∈l,a.1=p
 | [],h=>absurd rfl h
 | a::l,h=>by
  by_cases z:a.1=p
  ·exact⟨a,Z4,z⟩
  ·rw[VN,if_neg z,Int.zero_add] at h
   obtain⟨b,hb,e⟩:=Jrw h
   exact⟨b,Zn _ hb,e⟩
theorem nest (ok:HsOk len hs)(hx:x∈hs)(hy:y∈hs)(l1:x.2.1<y.2.1)(l2:y.2.1<x.2.2):y.2.2<=x.2.2:=by
 have ey:=(ok.each y hy).2.2.1
 obtain⟨i,hi,rfl⟩:=Zam.mp hx
 obtain⟨j,hj,rfl⟩:=Zam.mp hy
 rcases Nat.lt_trichotomy i j with h|h|h
 ·rcases ok.tog i j h hj with t|t|⟨_,t|t⟩<;>omega
 ·subst h
  omega
 ·rcases ok.tog j i h hi with t|t|⟨_,t|t⟩<;>omega
theorem Jtj (ns:List Int)(hl:ns.length<=63):∃h',Xn 16 [.rol (ns.map IV.int)] [.tab "Order.pick",.tab "longest_hold",.tab "Bench.__init__"]=.ok (.bl Zh) h':=by
 suffices h:WR (Xn 16 [.rol (ns.map IV.int)] [.tab "Order.pick",.tab "longest_hold",.tab "Bench.__init__"]) λ v _=>v=.bl Zh by
  obtain⟨v,h',e,rfl⟩:=h.eq
  exact⟨h',e⟩
 have t0:([.tab "Order.pick",.tab "longest_hold",.tab "Bench.__init__"]:IH)[2]?=Za (.tab "Bench.__init__"):=rfl
 have t1:([.tab "Order.pick",.tab "longest_hold",.tab "Bench.__init__"]:IH)[0]?=Za (.tab "Order.pick"):=rfl
 have t2:([.tab "Order.pick",.tab "longest_hold",.tab "Bench.__init__"]:IH)[1]?=Za (.tab "longest_hold"):=rfl
 generalize ([.tab "Order.pick",.tab "longest_hold",.tab "Bench.__init__"]:IH)=h at t0 t1 t2 ⊢
 rw[Jzd]
 refine xfin (xseq (xset (xb (Je (arg2 rfl rfl) (WR.mono (Jyc (k:=11) ns Zh) ?_)))))
 rintro _ h1 ⟨x1,S,lo,ys,rs,c,unit,rfl,_,gS,w,D,lr,no⟩
 have G:=D.gd (show rs.length<=7 by omega)
 obtain⟨h2,ev,vs,gv,wA,k2⟩:=Jup (k:=10) (e:=Ja 1) (σ:=[Za (.rol (ns.map IV.int)),Za (.ref S),Zc,Zc,Zc,Zc,Zc,Zc]) rfl G gS w
 have x2:=Jsv k2
 refine xseq (xset ?_)
 rw[VR]
 refine Je (arg1 ev) (WR.mono (J12 (k:=12) gv wA G) ?_)
 rintro _ h3 ⟨rfl,x3,d3⟩
 refine⟨rfl,?_⟩
 generalize h2.length=W at d3
 have x13:=x2.trans x3
 have gS3:=x13.get gS
 have w3:=w.kp x13.kp
 have ec:cutI (ns.map IV.int) (Za 8) (Za 22)=((ns.drop 8).take 14).map IV.int:=by
  rw[show(Za (8:Int))=Za ((8:Nat):Int) from rfl,show(Za (22:Int))=Za ((22:Nat):Int) from rfl,Jwu]
  rw[List.map_take,Zes,List.drop_take]
 refine xseq (xset (xb (xb (Je (show eSl slI _ _ _ _ _=.ok (.ref h3.length) (h3++[.lst (cutI (ns.map IV.int) (Za 8) (Za 22))]) from rfl) (xb (Je (arg1 rfl) (Je rfl ?_)))))))
 rw[ec]
 have xa:Ex h3 (h3++[IX.lst (((ns.drop 8).take 14).map IV.int)]):=.one _ _
 refine WR.mono (J0w (k:=13) (xa.get gS3) (w3.kp xa.kp) D (by omega) Jk (by rw[ZaV];omega)) ?_
 rintro _ h4 ⟨R,cs,rfl,_,gR,L,lcs,x4⟩
 have lcs:cs.length<=14:=ZZ lcs (by rw[ZaV];omega)
 have x4:=xa.trans x4
 have six:∀r∈rs,r.2.length<=6:=λ r hr=>(G.f r hr).ok.few
 have pos:∀r∈rs,∀b∈r.2,b.2.1<b.2.2:=λ r hr b hb=>((G.f r hr).ok.each b hb).2.2.1
 have cm:∀p,p<cs.length->cs.getD p cd∈cs:=λ p lp=>by rw[Zl,Zb lp];exact Z5 lp
 have c0:=λ p lp=>(L.ok _ (cm p lp)).at_
 have hN:∀p (lp:p<cs.length),hsN rs cs p=(rs[(cs.getD p cd).at_]'(c0 p lp)).2:=λ p lp=>by unfold hsN;rw[Ym (c0 p lp)]
 have h0:∀p,p<cs.length->∀x∈hsN rs cs p,0<=x.2.1:=λ p lp x hx=>by
  rw[hN p lp] at hx
  exact((G.f _ (Z5 (c0 p lp))).ok.each x hx).2.1
 have T:Nst rs cs:=λ q lq x hx y hy=>by
  rw[hN q lq] at hx hy
  exact nest (G.f _ (Z5 (c0 q lq))).ok hx hy
 have bd:∀p,p<cs.length->∀z,Ge rs (cs.getD p cd).at_ rs.length z->Bd rs cs p z:=λ p lp z ge=>⟨ge.1,λ q lq aq x hx fx=>by
  rw[hN q lq] at hx
  exact ge.2 _ _ (by unfold atN at aq;omega) (c0 q lq) (Zb (c0 q lq)) x hx fx⟩
 have m:WR (QR "ByRank" (Jar 15) [] (Jb (Ja 2) Jd) [Za (.rol (ns.map IV.int)),Za (.ref S),Za (.ref W),Za (.ref R),Zc,Zc,Zc,Zc] h4) λ v h'=>∃O,v=.ref O/\Ex h4 h'/\IsOr h' O rs:=by
  rw[VR]
  refine Je (arg1 rfl) (WR.mono (Jrh (k:=11) (d3.kp x4.kp) (by omega) six) ?_)
  rintro _ h5 ⟨rfl,x5,o⟩
  exact⟨rfl,_,rfl,x5,o⟩
 obtain⟨_,h5,e5,O,rfl,x5,o⟩:=m.eq
 have gR5:=x5.get gR
 have x6:Ex h5 (h5++[.lst (cs.map tupC)]):=.one _ _
 have gH:(h5++[IX.lst (cs.map tupC)])[h5.length]?=Za (.lst (cs.map tupC)):=Jk
 have x36:=x4.trans (x5.trans x6)
 have xt:=x1.trans (x13.trans x36)
 obtain⟨_,h7,e7,F,rfl,lF,gF,x7⟩:=(J0x (k:=8) (R:=h5.length) ⟨o.kp x6.kp,gH,λ c hc=>(L.ok c hc).at_,six,xt.get t1,by omega⟩ (xt.get t0) L (by omega)).eq
 have fw:=λ p z lp B=>Jy9 (p:=p) (z:=z) lp L six h0 B T
 have ls:=Jwy (rs:=rs) (cs:=cs)
 have ls:(finM rs cs).sr.reverse.length<=100000:=by rw[ZbF];omega
 generalize (finM rs cs).sr.reverse=ss at fw ls gF
 have x37:=x36.trans x7
 have x47:=x5.trans (x6.trans x7)
 have gR7:=x47.get gR
 refine xseq (xset (Je (JY (arg2 e5 (Jz6 rfl gR5)) e7) (xseq (xrng (lenE rfl gR7) (by rw[Zj];omega) ?_))))
 refine Qv (λ _ σ h'=>Ex h7 h'/\∃a5 a6 a7,σ=[Za (.rol (ns.map IV.int)),Za (.ref S),Za (.ref W),Za (.ref R),Za (.ref F),a5,a6,a7]) (λ _ _ _ _=>trivial) ?_ (λ _ _ _=>xret (Je rfl rfl)) ⟨.refl _,_,_,_,rfl⟩
 rintro n hn _ h8 ⟨x8,a5,a6,a7,rfl⟩
 rw[V3,show(0:Int)+(n:Int)=n by omega]
 have hn:n<cs.length:=by simpa [rngI] using hn
 have an:=c0 n hn
 have x38:=x37.trans x8
 have gR8:=x8.get gR7
 obtain⟨_,_,_,⟨z,_,ge⟩,_⟩:=(Jdl (k:=0) gS3 w3 (by omega) six (λ r hr b hb=>((G.f r hr).ok.each b hb).1) an).eq
 have n1:=(L.ok _ (cm n hn)).n1
 have f:=fw n z hn (bd n hn z ge)
 have own:=Jrw (p:=n) (l:=ss) (by rw[f.sm];unfold lnN;omega)
 obtain⟨_,h9,e9,⟨a,ha,ap,rfl⟩,x9⟩:=(Jr4 (k:=14) gR8 (x8.get gF) hn f.lt ls own).eq
 obtain⟨i,hi⟩:=List.getElem?_of_mem ha
 have up:=λ z (ge:Ge rs (cs.getD n cd).at_ rs.length z)=>(fw n z hn (bd n hn z ge)).le hi ap
 have x39:=x38.trans x9
 obtain⟨_,h10,e10,⟨z1,rfl,ge1⟩,x10⟩:=(Jdl (k:=14) (x39.get gS3) (w3.kp x39.kp) (by omega) six (λ r hr b hb=>((G.f r hr).ok.each b hb).1) an).eq
 have x310:=x39.trans x10
 obtain⟨_,h11,e11,⟨z2,rfl,ge2⟩,x11⟩:=(Jop (k:=11) an (d3.kp x310.kp) (by omega) six pos ((x1.trans (x13.trans x310)).get t2)).eq
 have u1:=up z1 ge1
 have u2:=up z2 ge2
 refine xnx rfl (xseq (xset (Je (ixtE (ixlE rfl rfl gR8 (Vv hn)) rfl JP) (xseq (xset (Je (JY (arg3 rfl rfl rfl) e9) ?_))))))
 exact xiff (orF (okc (gtE rfl (JY (arg2 rfl rfl) e10)) (decide_eq_false (by omega))) (okc (gtE rfl (JY (arg2 rfl rfl) e11)) (decide_eq_false (by omega)))) (xnil ⟨x8.trans (x9.trans (x10.trans x11)),_,_,_,rfl⟩)
end
end
end LW
end
namespace LW
open PySem L2 L3 L4
section
local macro_rules | `(tactic| bv_omega) => `(tactic| exact ⟨scOk.of (by decide +kernel), rfl, rfl, λ _ _ _ _ _ _ => by first | exact len1 λ _ => rfl | exact len2 λ _ _ => rfl | exact len3 λ _ _ _ => rfl | exact len4 λ _ _ _ _ => rfl⟩)
variable {K:W.Frag}{h:Zax}{mg:Str->Option Ze}{a:Zp}{oc kV dc pm cd ct:Ze}{od an:Option Zp}{sl:Array (Option Ze)}
theorem Jmq:FnB "is_whole" "is_whole" Jc7:=by bv_omega
theorem Jf5:FnB "is_whole_from" "is_whole_from" Jag:=by bv_omega
theorem Jlr:FnB "rounds_up" "rounds_up" Jb8:=by bv_omega
theorem Jt4:FnB "ready" "ready" Ji6:=by bv_omega
theorem Jlk:FnB "is_coming" "is_coming" Jb1:=by bv_omega
theorem Jic:FnB "first_wrong" "first_wrong" Jaw:=by bv_omega
theorem Jo5:FnB "checked" "checked" Jeu:=by bv_omega
theorem Jo8:FnB "is_name" "is_name" Jex:=by bv_omega
theorem Jo7:FnB "is_hold" "is_hold" Jew:=by bv_omega
theorem Jln:FnB "lie_apart" "lie_apart" Jb4:=by bv_omega
theorem Jpa:FnB "lies_in" "lies_in" Jez:=by bv_omega
theorem Jid:FnB "go_together" "go_together" Jax:=by bv_omega
theorem Je9:FnB "all_go_together" "all_go_together" Jac:=by bv_omega
theorem Jlp:FnB "own_holds" "own_holds" Jb6:=by bv_omega
theorem Jpb:FnB "own_due" "own_due" Je0:=by bv_omega
theorem Jlj:FnScope Qn.N Qn.ps (JQ Qn.st):=scOk.of (by decide +kernel)
theorem Jk8 {C:Zp}{T:Zp}{ox:Ze}{oy:Option Zp}{nx:Nat}{sx:Array (Option Ze)}{tk1:Tok}(ha:W.findIn K (.ref C) "__init__"=Za (Za (.ref a)))(hi:W.isFn K (.ref a)=Zh)(hl:K.lookup a=Za ⟨oc,od,.func (W.fnOf "__init__" "Work.__init__" (QQ Qn.st) (Qo Qn.st) (JQ Qn.st) (.ref T) kV dc pm an cd ct),sl⟩)(hc:W.codeIn K cd "Work.__init__"=Zh)(hk:W.keepIn K (.ref a)=Zh)(hd:K.lookup T=Za ⟨ox,oy,.seq #[.none,.int 0 tk1,.none] nx,sx⟩)(hm:W.makesIn K C=Zh)(hq:W.keepIn K (.ref C)=Zh):∃fa fd,Mk K C fa/\DefOk K "__init__" Qn fa fd :=
 ⟨a,_,⟨hm,ha,hi,hq⟩,⟨⟨_,⟨oc,od,kV,dc,pm,an,cd,ct,sl,rfl,hl,hc⟩,hk⟩,Jlj,(by intro j hj;rcases J3l j (show j<=3 from hj) with rfl|rfl|rfl|rfl;exact⟨[.none,.int 0 tk1,.none],λ s us Y hl=>len4 (P:=λ us=>Zc9 s _ ⟨us,[]⟩ (Qn.ps.zip (us++[.none,.int 0 tk1,.none]))) (λ _ _ _ _=>.of_defaults rfl (Y T _ hd) rfl rfl rfl) us (show us.length=4 by rw[Zx] at hl;exact Zcj (m:=3) hl),rfl,[V.non,V.int 0,V.non],.cons rfl (.cons ⟨_,rfl⟩ (.cons rfl (.nil))),λ _ _=>⟨_,_,rfl,rfl,⟨_,_,rfl,rfl,⟨_,_,rfl,rfl,rfl⟩⟩⟩⟩;exact⟨[.int 0 tk1,.none],λ s us Y hl=>len5 (P:=λ us=>Zc9 s _ ⟨us,[]⟩ (Qn.ps.zip (us++[.int 0 tk1,.none]))) (λ _ _ _ _ _=>.of_defaults rfl (Y T _ hd) rfl rfl rfl) us (show us.length=5 by rw[Zx] at hl;exact Zcj (m:=2) hl),rfl,[V.int 0,V.non],.cons ⟨_,rfl⟩ (.cons rfl (.nil)),λ _ _=>⟨_,_,rfl,rfl,⟨_,_,rfl,rfl,rfl⟩⟩⟩;exact⟨[.none],λ s us Y hl=>len6 (P:=λ us=>Zc9 s _ ⟨us,[]⟩ (Qn.ps.zip (us++[.none]))) (λ _ _ _ _ _ _=>.of_defaults rfl (Y T _ hd) rfl rfl rfl) us (show us.length=6 by rw[Zx] at hl;exact Zcj (m:=1) hl),rfl,[V.non],.cons rfl (.nil),λ _ _=>⟨_,_,rfl,rfl,rfl⟩⟩;exact⟨[],λ s us Y hl=>len7 (P:=λ us=>Zc9 s _ ⟨us,[]⟩ (Qn.ps.zip (us++[]))) (λ _ _ _ _ _ _ _=>.of_defaults rfl (Y T _ hd) rfl rfl rfl) us (show us.length=7 by rw[Zx] at hl;exact Zcj (m:=0) hl),rfl,[],.nil,λ _ _=>rfl⟩)⟩⟩
theorem Jli:FnB "held" "Work.held" Jb0:=by bv_omega
theorem Jlo:FnB "next_stop" "next_stop" Jb5:=by bv_omega
theorem Jjn:FnB "__init__" "Bench.__init__" Jba:=by bv_omega
theorem Jdz:FnB "next_ready" "Bench.next_ready" Jaa:=by bv_omega
theorem Jhm:FnB "let_in" "Bench.let_in" Jak:=by bv_omega
theorem Je7:FnB "turns_for" "Bench.turns_for" Jab:=by bv_omega
theorem Jjo:FnB "tell" "Bench.tell" Jbb:=by bv_omega
theorem Jh9:FnB "go_on" "Bench.go_on" Jau:=by bv_omega
theorem J1a:FnB "run" "run" Jsq:=by bv_omega
theorem Jlq:FnB "own_works" "own_works" Jb7:=by bv_omega
theorem Jmp:FnB "crowd_of" "crowd_of" Jc6:=by bv_omega
theorem Jlf:FnB "__init__" "Duty.__init__" Jbw:=by bv_omega
theorem Jlg:FnB "size" "Duty.size" Jbx:=by bv_omega
theorem Jlh:FnB "work" "Duty.work" Jby:=by bv_omega
theorem Jjp:FnB "crowd" "Duty.crowd" Jcy:=by bv_omega
theorem Jmo:FnB "ceilings" "ceilings" Jc5:=by bv_omega
theorem Jig:FnB "things_held" "things_held" Ja0:=by bv_omega
theorem Jrn:FnB "lifted" "lifted" Jf8:=by bv_omega
theorem Jjt:FnB "turns_held" "turns_held" Jbf:=by bv_omega
theorem Jho:FnB "longest_hold" "longest_hold" Jam:=by bv_omega
theorem Jo6:FnB "hold_up" "hold_up" Jev:=by bv_omega
theorem Jjq:FnB "__init__" "Order.__init__" Jbc:=by bv_omega
theorem Jf4:FnB "rank_of" "Order.rank_of" Ja4:=by bv_omega
theorem Jib:FnB "holds" "Order.holds" Jbz:=by bv_omega
theorem Je8:FnB "pick" "Order.pick" Xr:=by bv_omega
theorem Jbo:FnB "standing" "Order.standing" Xs:=by bv_omega
theorem Jia:FnB "__init__" "ByRank.__init__" Jav:=by bv_omega
theorem Jfm:FnB "rank_of" "ByRank.rank_of" Jad:=by bv_omega
theorem Jhn:FnB "holds" "ByRank.holds" Jal:=by bv_omega
theorem Jie:FnB "_law_cell_at" "_law_cell_at" Jay:=by bv_omega
theorem Jjr:FnB "_law_stream" "_law_stream" Jbd:=by bv_omega
theorem Jms:FnB "_law_word" "_law_word" Jc9:=by bv_omega
theorem Jll:FnB "_law_holds" "_law_holds" Jb2:=by bv_omega
theorem Jlm:FnB "_law_plain" "_law_plain" Jb3:=by bv_omega
theorem Jmr:FnB "_law_some" "_law_some" Jc8:=by bv_omega
theorem Jo9:FnB "_law_row" "_law_row" Jey:=by bv_omega
theorem Jif:FnB "_law_longest" "_law_longest" Jaz:=by bv_omega
theorem Jjs:FnB "_law_weaker" "_law_weaker" Jbe:=by bv_omega
theorem J09:FnScope QP.N QP.ps (JQ QP.st):=scOk.of (by decide +kernel)
theorem J0d (X:K.In h)(G:h.Ns Z2 mg)(ha:W.nsIn K Z2 "law"=Za (Za (.ref a)))(hl:K.lookup a=Za ⟨oc,od,.func (W.fnOf "law" "law" (QQ QP.st) (Qo QP.st) (JQ QP.st) .none kV dc pm an cd ct),sl⟩)(hc:W.codeIn K cd "law"=Zh)(hk:W.keepIn K (.ref a)=Zh):∃fa fd,mg "law"=Za (.ref fa)/\DefOk K "law" QP fa fd/\∀(s:Zm) (v:Ze),Zc9 s fd ⟨[v],[]⟩ [("_law_script",v)] :=
 ⟨a,_,W.mg_of X G ha,Jvb (d:=QP) hl hc hk J09 rfl (len1 (λ _=>rfl)),λ s v=>.of_eq rfl⟩
theorem Yt (pg:W.plainGet K C Str.empty=Zh)(hd:W.hasDictIn K C=Zh)(po:W.plainOver K C=Zh)(sa:W.findIn K (.ref C) "__setattr__"=Za (Za (.builtin "object.__setattr__")))(h1:W.findIn K (.ref C) "__class__"=Za (Za (.builtin "object.__class__")))(h2:W.specialIn K (.builtin "object.__class__") "__get__"=Za (Za (.builtin "getset_descriptor.__get__")))(h3:W.takesIn K (.builtin "object.__class__")=Za Zh)(h4:W.mroIn K C (.type "object")=Za Zh)(n0:W.findIn K (.ref C) "append"=Za Zc)(n1:W.findIn K (.ref C) "dones"=Za Zc)(n2:W.findIn K (.ref C) "due"=Za Zc)(n3:W.findIn K (.ref C) "duty"=Za Zc)(n4:W.findIn K (.ref C) "extend"=Za Zc)(n5:W.findIn K (.ref C) "gap"=Za Zc)(n6:W.findIn K (.ref C) "hold_tuples"=Za Zc)(n7:W.findIn K (.ref C) "join"=Za Zc)(n8:W.findIn K (.ref C) "late"=Za Zc)(n9:W.findIn K (.ref C) "later"=Za Zc)(n10:W.findIn K (.ref C) "length"=Za Zc)(n11:W.findIn K (.ref C) "name"=Za Zc)(n12:W.findIn K (.ref C) "order"=Za Zc)(n13:W.findIn K (.ref C) "place"=Za Zc)(n14:W.findIn K (.ref C) "pop"=Za Zc)(n15:W.findIn K (.ref C) "remove"=Za Zc)(n16:W.findIn K (.ref C) "row"=Za Zc)(n17:W.findIn K (.ref C) "setdefault"=Za Zc)(n18:W.findIn K (.ref C) "stretches"=Za Zc)(n19:W.findIn K (.ref C) "tops"=Za Zc)(n20:W.findIn K (.ref C) "turn"=Za Zc)(n21:W.findIn K (.ref C) "waiting"=Za Zc)(n22:W.findIn K (.ref C) "works"=Za Zc):ClsI K C/\All (λ f=>Q9 K C f) T.flds :=
 ⟨⟨⟨pg,hd,po,sa⟩,h1,h2,h3,h4⟩,.cons n0 (.cons n1 (.cons n2 (.cons n3 (.cons n4 (.cons n5 (.cons n6 (.cons n7 (.cons n8 (.cons n9 (.cons n10 (.cons n11 (.cons n12 (.cons n13 (.cons n14 (.cons n15 (.cons n16 (.cons n17 (.cons n18 (.cons n19 (.cons n20 (.cons n21 (.cons n22 (.nil)))))))))))))))))))))))⟩
theorem J0c (sp:W.specialIn K (.ref C) "__getattribute__"=Za (Za (.builtin "type.__getattribute__")))(rd:W.readsIn K C (.type "type")=Zh)(fi:W.findIn K (.ref C) "__init__"=Za (Za (.ref a)))(fc:W.findCls K (.ref C) (.type "type") "__init__"=Za (.val (.ref a)))(kp:W.keepIn K (.ref a)=Zh):BasK K C:=⟨sp,rd,a,fi,fc,kp⟩
abbrev DfO (K:W.Frag)(mg:Str->Option Ze)(x:Str)(d:D4):Prop:=∃fa fd,mg x=Za (.ref fa)/\DefOk K x d fa fd
abbrev DmO (K:W.Frag)(C:Zp)(x:Str)(d:D4):Prop:=∃fa fd,Meth K C x fa/\DefOk K x d fa fd
theorem fin {prog:ZB}{w:Zab}(X:K.In h)(G:h.Ns Z2 mg)(hfa:mg "law"=Za (.ref fa)){C_Work:Zp}{C_Bench:Zp}{C_Duty:Zp}{C_Order:Zp}{C_ByRank:Zp}{tk_MOST_COMINGS:Tok}{tk_AT:Tok}{tk_COME:Tok}{tk_LATE:Tok}{tk_LENGTH:Tok}{tk_MOST_LETTERS:Tok}{tk_MOST_HOLDS:Tok}{tk_THING:Tok}{tk_START:Tok}{tk_END:Tok}{tk_PLACE:Tok}{tk_FROM:Tok}{tk_MOST_WORKS:Tok}{tk_MOST_CROWD:Tok} 
  (aC_Work:W.nsIn K Z2 "Work"=Za (Za (.ref C_Work)))
  (aC_Bench:W.nsIn K Z2 "Bench"=Za (Za (.ref C_Bench)))
  (aC_Duty:W.nsIn K Z2 "Duty"=Za (Za (.ref C_Duty)))
  (aC_Order:W.nsIn K Z2 "Order"=Za (Za (.ref C_Order)))
  (aC_ByRank:W.nsIn K Z2 "ByRank"=Za (Za (.ref C_ByRank)))
  (f_is_whole:DfO K mg "is_whole" Jc7)
  (f_is_whole_from:DfO K mg "is_whole_from" Jag)
  (f_rounds_up:DfO K mg "rounds_up" Jb8)
  (f_ready:DfO K mg "ready" Ji6)
  (f_is_coming:DfO K mg "is_coming" Jb1)
  (f_first_wrong:DfO K mg "first_wrong" Jaw)
  (f_checked:DfO K mg "checked" Jeu)
  (f_is_name:DfO K mg "is_name" Jex)
  (f_is_hold:DfO K mg "is_hold" Jew)
  (f_lie_apart:DfO K mg "lie_apart" Jb4)
  (f_lies_in:DfO K mg "lies_in" Jez)
  (f_go_together:DfO K mg "go_together" Jax)
  (f_all_go_together:DfO K mg "all_go_together" Jac)
  (f_own_holds:DfO K mg "own_holds" Jb6)
  (f_own_due:DfO K mg "own_due" Je0)
  (f_next_stop:DfO K mg "next_stop" Jb5)
  (f_run:DfO K mg "run" Jsq)
  (f_own_works:DfO K mg "own_works" Jb7)
  (f_crowd_of:DfO K mg "crowd_of" Jc6)
  (f_ceilings:DfO K mg "ceilings" Jc5)
  (f_things_held:DfO K mg "things_held" Ja0)
  (f_lifted:DfO K mg "lifted" Jf8)
  (f_turns_held:DfO K mg "turns_held" Jbf)
  (f_longest_hold:DfO K mg "longest_hold" Jam)
  (f_hold_up:DfO K mg "hold_up" Jev)
  (f_law_cell_at:DfO K mg "_law_cell_at" Jay)
  (f_law_stream:DfO K mg "_law_stream" Jbd)
  (f_law_word:DfO K mg "_law_word" Jc9)
  (f_law_holds:DfO K mg "_law_holds" Jb2)
  (f_law_plain:DfO K mg "_law_plain" Jb3)
  (f_law_some:DfO K mg "_law_some" Jc8)
  (f_law_row:DfO K mg "_law_row" Jey)
  (f_law_longest:DfO K mg "_law_longest" Jaz)
  (f_law_weaker:DfO K mg "_law_weaker" Jbe)
  (f_law:∃fa fd,mg "law"=Za (.ref fa)/\DefOk K "law" QP fa fd/\∀(s:Zm) (v:Ze),Zc9 s fd ⟨[v],[]⟩ [("_law_script",v)])
  (i_Work:∃fa fd,Mk K C_Work fa/\DefOk K "__init__" Qn fa fd)
  (m_Work_held:DmO K C_Work "held" Jb0)
  (c_Work:ClsI K C_Work/\All (λ f=>Q9 K C_Work f) T.flds)
  (i_Bench:∃fa fd,Mk K C_Bench fa/\DefOk K "__init__" Jba fa fd)
  (m_Bench_next_ready:DmO K C_Bench "next_ready" Jaa)
  (m_Bench_let_in:DmO K C_Bench "let_in" Jak)
  (m_Bench_turns_for:DmO K C_Bench "turns_for" Jab)
  (m_Bench_tell:DmO K C_Bench "tell" Jbb)
  (m_Bench_go_on:DmO K C_Bench "go_on" Jau)
  (c_Bench:ClsI K C_Bench/\All (λ f=>Q9 K C_Bench f) T.flds)
  (i_Duty:∃fa fd,Mk K C_Duty fa/\DefOk K "__init__" Jbw fa fd)
  (m_Duty_size:DmO K C_Duty "size" Jbx)
  (m_Duty_work:DmO K C_Duty "work" Jby)
  (m_Duty_crowd:DmO K C_Duty "crowd" Jcy)
  (c_Duty:ClsI K C_Duty/\All (λ f=>Q9 K C_Duty f) T.flds)
  (i_Order:∃fa fd,Mk K C_Order fa/\DefOk K "__init__" Jbc fa fd)
  (m_Order_rank_of:DmO K C_Order "rank_of" Ja4)
  (m_Order_holds:DmO K C_Order "holds" Jbz)
  (m_Order_pick:DmO K C_Order "pick" Xr)
  (m_Order_standing:DmO K C_Order "standing" Xs)
  (c_Order:ClsI K C_Order/\All (λ f=>Q9 K C_Order f) T.flds)
  (i_ByRank:∃fa fd,Mk K C_ByRank fa/\DefOk K "__init__" Jav fa fd)
  (m_ByRank_rank_of:DmO K C_ByRank "rank_of" Jad)
  (m_ByRank_holds:DmO K C_ByRank "holds" Jal)
  (m_ByRank_pick:DmO K C_ByRank "pick" Xr)
  (m_ByRank_standing:DmO K C_ByRank "standing" Xs)
  (c_ByRank:ClsI K C_ByRank/\All (λ f=>Q9 K C_ByRank f) T.flds)
  (g_MOST_COMINGS:W.nsIn K Z2 "MOST_COMINGS"=Za (Za (.int 200 tk_MOST_COMINGS)))
  (g_AT:W.nsIn K Z2 "AT"=Za (Za (.int 0 tk_AT)))
  (g_COME:W.nsIn K Z2 "COME"=Za (Za (.int 1 tk_COME)))
  (g_LATE:W.nsIn K Z2 "LATE"=Za (Za (.int 2 tk_LATE)))
  (g_LENGTH:W.nsIn K Z2 "LENGTH"=Za (Za (.int 3 tk_LENGTH)))
  (g_MOST_LETTERS:W.nsIn K Z2 "MOST_LETTERS"=Za (Za (.int 8 tk_MOST_LETTERS)))
  (g_MOST_HOLDS:W.nsIn K Z2 "MOST_HOLDS"=Za (Za (.int 6 tk_MOST_HOLDS)))
  (g_THING:W.nsIn K Z2 "THING"=Za (Za (.int 0 tk_THING)))
  (g_START:W.nsIn K Z2 "START"=Za (Za (.int 1 tk_START)))
  (g_END:W.nsIn K Z2 "END"=Za (Za (.int 2 tk_END)))
  (g_PLACE:W.nsIn K Z2 "PLACE"=Za (Za (.int 0 tk_PLACE)))
  (g_FROM:W.nsIn K Z2 "FROM"=Za (Za (.int 1 tk_FROM)))
  (g_MOST_WORKS:W.nsIn K Z2 "MOST_WORKS"=Za (Za (.int 12 tk_MOST_WORKS)))
  (g_MOST_CROWD:W.nsIn K Z2 "MOST_CROWD"=Za (Za (.int 80 tk_MOST_CROWD)))
  (k_Work_NoneType:W.kitOne K (.type "NoneType") (.ref C_Work)=Za Zk)
  (k_Work_bool:W.kitOne K (.type "bool") (.ref C_Work)=Za Zk)
  (k_Work_int:W.kitOne K (.type "int") (.ref C_Work)=Za Zk)
  (k_Work_str:W.kitOne K (.type "str") (.ref C_Work)=Za Zk)
  (k_Work_list:W.kitOne K (.type "list") (.ref C_Work)=Za Zk)
  (k_Work_tuple:W.kitOne K (.type "tuple") (.ref C_Work)=Za Zk)
  (k_Work_dict:W.kitOne K (.type "dict") (.ref C_Work)=Za Zk)
  (k_Work_Work:W.kitOne K (.ref C_Work) (.ref C_Work)=Za (memS "Work" ["Work"]))
  (k_Work_Bench:W.kitOne K (.ref C_Bench) (.ref C_Work)=Za (memS "Bench" ["Work"]))
  (k_Work_Duty:W.kitOne K (.ref C_Duty) (.ref C_Work)=Za (memS "Duty" ["Work"]))
  (k_Work_Order:W.kitOne K (.ref C_Order) (.ref C_Work)=Za (memS "Order" ["Work"]))
  (k_Work_ByRank:W.kitOne K (.ref C_ByRank) (.ref C_Work)=Za (memS "ByRank" ["Work"]))
  (z_all:W.nsIn K Z2 "all"=Za Zc)
  (z_bool:W.nsIn K Z2 "bool"=Za Zc)
  (z_enumerate:W.nsIn K Z2 "enumerate"=Za Zc)
  (z_int:W.nsIn K Z2 "int"=Za Zc)
  (z_isinstance:W.nsIn K Z2 "isinstance"=Za Zc)
  (z_len:W.nsIn K Z2 "len"=Za Zc)
  (z_list:W.nsIn K Z2 "list"=Za Zc)
  (z_max:W.nsIn K Z2 "max"=Za Zc)
  (z_min:W.nsIn K Z2 "min"=Za Zc)
  (z_range:W.nsIn K Z2 "range"=Za Zc)
  (z_set:W.nsIn K Z2 "set"=Za Zc)
  (z_sorted:W.nsIn K Z2 "sorted"=Za Zc)
  (z_str:W.nsIn K Z2 "str"=Za Zc)
  (z_sum:W.nsIn K Z2 "sum"=Za Zc)
  (z_tuple:W.nsIn K Z2 "tuple"=Za Zc)
  (bs_Order:BasK K C_Order)
  : ∃fd:ZaH,(∀(s:Zm) (v:Ze),Zc9 s fd ⟨[v],[]⟩ [("_law_script",v)])/\∀base:Zax,K.In base->base.Ns Z2 mg->Qw mg base->FnOk prog w K mg base (CXI prog w) 64 fa fd ["_law_script"] (XJ K "_law_script" (Xn 16)):=by
 obtain⟨fa',fd,hm,ok,hb⟩:=f_law
 have e:=hfa.symm.trans hm
 cases e
 have O:TabOk (ceOf [("Work",C_Work),("Bench",C_Bench),("Duty",C_Duty),("Order",C_Order),("ByRank",C_ByRank)]) T K mg:=J1g _
  (.cons (f_is_whole) (.cons (f_is_whole_from) (.cons (f_rounds_up) (.cons (f_ready) (.cons (f_is_coming) (.cons (f_first_wrong) (.cons (f_checked) (.cons (f_is_name) (.cons (f_is_hold) (.cons (f_lie_apart) (.cons (f_lies_in) (.cons (f_go_together) (.cons (f_all_go_together) (.cons (f_own_holds) (.cons (f_own_due) (.cons (f_next_stop) (.cons (f_run) (.cons (f_own_works) (.cons (f_crowd_of) (.cons (f_ceilings) (.cons (f_things_held) (.cons (f_lifted) (.cons (f_turns_held) (.cons (f_longest_hold) (.cons (f_hold_up) (.cons (f_law_cell_at) (.cons (f_law_stream) (.cons (f_law_word) (.cons (f_law_holds) (.cons (f_law_plain) (.cons (f_law_some) (.cons (f_law_row) (.cons (f_law_longest) (.cons (f_law_weaker) (.cons (⟨_,_,hm,ok⟩) (.nil))))))))))))))))))))))))))))))))))))
  (.cons ((let ⟨fa,fd,p,q⟩:=i_Work;⟨C_Work,fa,fd,W.mg_of X G aC_Work,by kernel_rfl,p,q⟩)) (.cons ((let ⟨fa,fd,p,q⟩:=i_Bench;⟨C_Bench,fa,fd,W.mg_of X G aC_Bench,by kernel_rfl,p,q⟩)) (.cons ((let ⟨fa,fd,p,q⟩:=i_Duty;⟨C_Duty,fa,fd,W.mg_of X G aC_Duty,by kernel_rfl,p,q⟩)) (.cons ((let ⟨fa,fd,p,q⟩:=i_Order;⟨C_Order,fa,fd,W.mg_of X G aC_Order,by kernel_rfl,p,q⟩)) (.cons ((let ⟨fa,fd,p,q⟩:=i_ByRank;⟨C_ByRank,fa,fd,W.mg_of X G aC_ByRank,by kernel_rfl,p,q⟩)) (.nil))))))
  (.cons (⟨C_Work,by kernel_rfl,.cons (m_Work_held) (.nil)⟩) (.cons (⟨C_Bench,by kernel_rfl,.cons (m_Bench_next_ready) (.cons (m_Bench_let_in) (.cons (m_Bench_turns_for) (.cons (m_Bench_tell) (.cons (m_Bench_go_on) (.nil)))))⟩) (.cons (⟨C_Duty,by kernel_rfl,.cons (m_Duty_size) (.cons (m_Duty_work) (.cons (m_Duty_crowd) (.nil)))⟩) (.cons (⟨C_Order,by kernel_rfl,.cons (m_Order_rank_of) (.cons (m_Order_holds) (.cons (m_Order_pick) (.cons (m_Order_standing) (.nil))))⟩) (.cons (⟨C_ByRank,by kernel_rfl,.cons (m_ByRank_rank_of) (.cons (m_ByRank_holds) (.cons (m_ByRank_pick) (.cons (m_ByRank_standing) (.nil))))⟩) (.nil))))))
  (.cons (⟨_,.int 200,W.mg_of X G g_MOST_COMINGS,⟨tk_MOST_COMINGS,rfl⟩,λ _ _=>rfl⟩) (.cons (⟨_,.int 0,W.mg_of X G g_AT,⟨tk_AT,rfl⟩,λ _ _=>rfl⟩) (.cons (⟨_,.int 1,W.mg_of X G g_COME,⟨tk_COME,rfl⟩,λ _ _=>rfl⟩) (.cons (⟨_,.int 2,W.mg_of X G g_LATE,⟨tk_LATE,rfl⟩,λ _ _=>rfl⟩) (.cons (⟨_,.int 3,W.mg_of X G g_LENGTH,⟨tk_LENGTH,rfl⟩,λ _ _=>rfl⟩) (.cons (⟨_,.int 8,W.mg_of X G g_MOST_LETTERS,⟨tk_MOST_LETTERS,rfl⟩,λ _ _=>rfl⟩) (.cons (⟨_,.int 6,W.mg_of X G g_MOST_HOLDS,⟨tk_MOST_HOLDS,rfl⟩,λ _ _=>rfl⟩) (.cons (⟨_,.int 0,W.mg_of X G g_THING,⟨tk_THING,rfl⟩,λ _ _=>rfl⟩) (.cons (⟨_,.int 1,W.mg_of X G g_START,⟨tk_START,rfl⟩,λ _ _=>rfl⟩) (.cons (⟨_,.int 2,W.mg_of X G g_END,⟨tk_END,rfl⟩,λ _ _=>rfl⟩) (.cons (⟨_,.int 0,W.mg_of X G g_PLACE,⟨tk_PLACE,rfl⟩,λ _ _=>rfl⟩) (.cons (⟨_,.int 1,W.mg_of X G g_FROM,⟨tk_FROM,rfl⟩,λ _ _=>rfl⟩) (.cons (⟨_,.int 12,W.mg_of X G g_MOST_WORKS,⟨tk_MOST_WORKS,rfl⟩,λ _ _=>rfl⟩) (.cons (⟨_,.int 80,W.mg_of X G g_MOST_CROWD,⟨tk_MOST_CROWD,rfl⟩,λ _ _=>rfl⟩) (.nil)))))))))))))))
  (.cons (c_Work) (.cons (c_Bench) (.cons (c_Duty) (.cons (c_Order) (.cons (c_ByRank) (.nil))))))
  (.cons (⟨C_Work,W.mg_of X G aC_Work,k_Work_NoneType,k_Work_bool,k_Work_int,k_Work_str,k_Work_list,k_Work_tuple,k_Work_dict,.cons (k_Work_Work) (.cons (k_Work_Bench) (.cons (k_Work_Duty) (.cons (k_Work_Order) (.cons (k_Work_ByRank) (.nil)))))⟩) (.nil))
  (.cons (W.mg_none_of X G z_all) (.cons (W.mg_none_of X G z_bool) (.cons (W.mg_none_of X G z_enumerate) (.cons (W.mg_none_of X G z_int) (.cons (W.mg_none_of X G z_isinstance) (.cons (W.mg_none_of X G z_len) (.cons (W.mg_none_of X G z_list) (.cons (W.mg_none_of X G z_max) (.cons (W.mg_none_of X G z_min) (.cons (W.mg_none_of X G z_range) (.cons (W.mg_none_of X G z_set) (.cons (W.mg_none_of X G z_sorted) (.cons (W.mg_none_of X G z_str) (.cons (W.mg_none_of X G z_sum) (.cons (W.mg_none_of X G z_tuple) (.nil))))))))))))))))
  (.cons (⟨C_Order,W.mg_of X G aC_Order,bs_Order⟩) (.nil))
 exact⟨fd,hb,λ base _ _ B=>Jxh O (λ _=>B) 16 rfl ok⟩
end
end LW
open PySem L2
theorem LW.walk {l:W.OpenLaw}{q:ZB}{loose:List Str}{XP:(Str->Option Ze)->Zax->Prop}{YP:Zab->Zax->Prop}{d:DefRec}{K:Params->W.Frag}{ts:List Zp}(hn:l.most=Za 63)(hdf:d.params.defaults=[]) 
  (hY:∀(w:Zab) (h:Zax),YP w h->(K w.params).In h/\∀p∈ts,h.get? p=Za (W.tabObj #[]))(hc:∀w:Zab,L4.Vd (K w.params) ["Order.pick","longest_hold","Bench.__init__"] ts=Zh)
  (F:∀(w:Zab)(mg:Str->Option Ze)(fa:Zp)(h:Zax),(K w.params).In h->h.Ns Z2 mg->mg d.name=Za (.ref fa) ->
   ∃fd:ZaH,(∀(s:Zm) (u:Ze),Zc9 s fd ⟨[u],[]⟩ [("_law_script",u)])/\∀base:Zax,(K w.params).In base->base.Ns Z2 mg->L3.Qw mg base->FnOk l.prog w (K w.params) mg base (L3.CXI l.prog w) 64 fa fd ["_law_script"] (L3.XJ (K w.params) "_law_script" (LW.Xn 16))) :
  W.WalkO q loose XP YP l.row.toRowW d [] (λ f vs=>PySem.call f vs) :=
 L4.Juo (n:=63) (k:=64) (x:="_law_script") (f:=LW.Xn 16) (qs:=["Order.pick","longest_hold","Bench.__init__"]) (ts:=ts) hn (by decide) hdf ⟨rfl,by decide,by decide⟩ hY hc F λ ns hl=>LW.Jtj ns hl
open PySem PySem.W PyProof.Rows
structure PySem.W.Fast:Prop where (tw1159670692662318221 tw14608984555858832300 tw13266059400097763757 tw3118002847706761873 tw8568678914791117931 tw3066674411128093746 tw8115959633086599247 tw11350717875937526921 tw1311042094313605489 tw18019922824640835103
tw8725965619777934604 tw1479940751669351087 tw9762241853233516624 tw16457492915228789994 tw109862421898301901 tw8473792471649800732 tw13886606177684243006 tw12280484985712282608 tw6536423343389826197 tw15950460746270188436
tw3082305610633530343 tw14659760617990209280 tw669791371366307869 tw17684790418924431434 tw2322420050679264881 tw7331423673636763719 tw4238027183982380615 tw5632737046268555106 tw8811467350639114635 tw2303770075144158853
tw17710921723184822250 tw8653975239230883792 tw7784204173595562481 tw15344788893684796165 tw13449413560590737982 tw4364113880887278829 tw11879479294734943813 tw15394771331741280856 tw7584578998949281311 tw8533214812673431846
tw740587177197407887 tw4094268876381621199 tw15685458640720916535 tw7591502506272040229 tw14525861066439583802 tw9451903064531972998 tw7341065759798589395 tw15228285665014839079 tw14080290304176060587 tw11496395440278200349
tw10326336387103197697 tw109521435939990466 tw12226735992066638267 tw9729752438434445334 tw9321871821734484573 tw12059394120792724647 tw1774067552032608855 tw13599663038450766849 tw11363905308867820578 tw16465594523073297784
tw18132549468787041666 tw8852442120497070546 tw8115638416627659299 tw11280605118923180368 tw12702376895659444892 tw14875900396186226809 tw7919549757150850657 tw8112835874061747074 tw12935866157524780393 tw4741722714263014623
tw11604594303323244255 tw7756023424833977076 tw4601628088456538753 tw8093531523598119173 tw7227797441020138505 tw10900929698192591072 tw12786756948232525430 tw13085122943941267529 tw12776922696830541238 tw6830274968845416980
tw9539939590412905416 tw183950049145960734 tw11792984883308806767 tw11255757485698378323 tw13966983565332525201 tw10134372422487064868 tw6970713760899296492 tw17945440069058884425 tw3271345086527745791 tw6145554994266966912
tw10982909807879073182 tw5655992289686923903 tw683705631563732991 tw3872406320271011 tw10978471030422203385 tw1809398734992824724 tw14676751452980175624 tw18271268797372062827 tw620315282184764974 tw10313284808795424177
tw7941081732498583035 tw14040397830867836425 tw500037770908398036 tw13924013657047767831 tw1933224718423676576 tw9004981921540642832 tw5448351732731255977 tw12452571692221466110 tw7990132636837759488 tw5141434242060049997
tw1089573066621628533 tw6606603074853519358 tw17784122567251345792 tw15359145510471011769 tw7915405016138582361 tw12481640107837917029 tw5384752010590908379 tw12156159387903874578 tw6399177505944274091 tw16618741833189028883
tw11681050380322203430 tw8116353801001307808 tw2768132336269778192 tw7143356002037280485 tw10682666558269332792 tw17619953947166824089 tw4985791078828607853 tw11375230755776727795 tw314470678196755916 tw16332405247301548436
tw6826400027618808322 tw18317525076972390752 tw5113373656067561547 tw2676085866475646791 tw9058027309630012414 tw16145074325631555985 tw16244384449365501445 tw10439059770093699262 tw4728867196658514155 tw10272895102226240376
tw6110666083170987274 tw4757232678816500616 tw14709016730806366192 tw13934733567276452924 tw4855660155773068333 tw6046268848851069708 tw1020518644860612097 tw13003969414532980333 tw3309204746473368125 tw3986511708579393922
tw422846098736890195 tw7215780459198119676 tw8315507703907758765 tw15549297791999846 tw9018780166276100444 tw11202324402166847772 tw14801317003227298710 tw9237950878592190794 tw5173172026224796354 tw1913753858260810467
tw1643914585783974816 tw4091682645110585947 tw1370577164293729613 tw1220515391705815124 tw3371838586527997008 tw10291911339830228224 tw6359659933307056384 tw5464014449473285391 tw18140677532196458404 tw9084711853056310974
tw10954553349693931411 tw2130583835546123601 tw6658019975389624165 tw9478257872758932776 tw4302170930159003462 tw17773071457210379123 tw17676778359619118006 tw9311867597500855727 tw2850349786863159752 tw9385669643427354894
tw5708597157451593758 tw11430373152807978040 tw550445977658208742 tw5565113541370919791 tw1101059053927335588 tw14163340774336495485 tw12010070318045359219 tw16975799918429845622 tw7866850310527079320 tw1419968275944515904
tw5128163756274197187 tw4465074965970687143 tw9418884989247100873 tw8575004223686192361 tw3469932749928153989 tw1656862964043497545 tw18441978531887771950 tw4691527851419416608 tw2384601862987825336 tw8655340625229905165
tw18275834276879523476 tw17627149797396663542 tw8132905255855788029 tw9949475590177211314 tw9403045038113517645 tw17888533740336701142 tw16864448296760092382 tw18130847341062638857 tw8233802981476700980 tw14833551896384738315
tw2392026769809110645 tw11503322547709596668 tw14016365166526801102 tw17288370160852837831 tw8924708043185721177 tw5195881396704146307 tw8805001011410960782 tw2433419866731244934 tw14641370465868239736 tw5577396856098934710
tw12266099500638679284 tw15138464853517443160 tw1412856925500785582 tw3632883639689591542 tw4878888761493634272 tw8479512604988643734 tw942839956638728868 tw8934655574754909616 tw13448911004255570933 tw2053724840150842127
tw8493351303121766595 tw4898385533144226013 tw3907197506388560124 tw4360759327453596122 tw4977051154093806039 tw4610826178947703636 tw257555767050331300 tw4833169900345084033 tw6543857243498240098 tw4494464358038120461
tw14652300577887604477 tw9787136825755585333 tw4002476214466525569 tw13539045884486301246 tw12173080331260242642 tw15578125540709528953 tw3270534329131950036 tw10796476432428157694 tw9533823646988055000 tw14622470325828992652
tw13653793413348253314 tw5490290450426782133 tw2177945260564820675 tw234721876332680450 tw1214110030339372677 tw6570218671831383296 tw6506246532211154474 tw7720746024902772400 tw12515884302576362290 tw7905812979861023042
tw4275762777444428046 tw10430962803280877589 tw2886311305573285186 tw9366552025649842895 tw14696574298576338424 tw1981712856122813543 tw14651181745006009464 tw17884664600935866443 tw15231339027220445474 tw10196838559098031060
tw13000719099860307728 tw16093568035015722769 tw4410188820227901736 tw12210835774399973385 tw12931734469051019944 tw1627504903719395715 tw12406171371211736654 tw5002856319042211025 tw5308800815736695864 tw629517667688660959
tw13562092070286557565 tw5425458589795372451 tw8226379392257184678 tw6860617880908794965 tw946273837221266770 tw5627531255361796965 tw11812885217730725162 tw12221027975612576921 tw10176841154260652617 tw1677271369628916207
tw14770217295838461175 tw15367760325897900151 tw16006898828507081368 tw3513392678848249676 tw6462021124373311897 tw10189518603399561223 tw3360179896720855119 tw3552460118223432128 tw4283134835526042199 tw15643745295073327178
tw8109497459820940389 tw15038180150647459312 tw753736598614525729 tw5558138796254467534 tw417809532144838563 tw1990555002120993 tw15948695019233400974 tw900295552857342033 tw12246842941312959917 tw10345550425970161457
tw5204644464818465453 tw1528410999226497077 tw9579723476733194827 tw9204509467106288969 tw12919109306465894157 tw10712209155452533577 tw6792152931008498503 tw8681205392357479808 tw14450406694544392847 tw4040083793009269017
tw17776494708394912037 tw12302518639924056379 tw932117613924788076 tw7510116997901977911 tw644810555505081592 tw11630003746781502598 tw10482994490502528679 tw16337814470485874312 tw11765818619846920091 tw8951841030915188373
tw159962602378627107 tw6919352573132709896 tw5133433313655637947 tw14387884826862259508 tw11701025731594132118 tw271829856475146366 tw14993431901696169895 tw18009746846232833388 tw12551493459215577736 tw3480766233441210926
tw3551638609782182615 tw5627986021928395509 tw12741656359179670121 tw1374599816674431502 tw16887808173561144424 tw8853172994168564567 tw631069894373463950 tw16069058753170646131 tw16447696696093899793 tw5685209901322472273
tw15071926881946334542 tw189663822077755826 tw10487924653317651093 tw7826108684419219482 tw12532256237896328194 tw1554410594452883061 tw15430762364663199924 tw13740280636550339748 tw2749676434211487329 tw16052604844674547539
tw14331162615871520517 tw2757957757610597784 tw5133009837927015906 tw2542788434731806229 tw2150139490393473265 tw15710834701049652184 tw17992507062521613390 tw16413105056748802376 tw7322274747565617136 tw14035354684277650775
tw11431810178810481661 tw3771683742280307859 tw3316840468436032251 tw11637772410554499415 tw1339570258270749272 tw2210532037130797253 tw7493501931187603673 tw8750697968102205515 tw18396307090602290696 tw12891082712878564320
tw12351292165177869233 tw14399028200221670888 tw11417726842365432588 tw4601941764949088087 tw4343148655386017747 tw2903067838845931390 tw16000644814354598271 tw7194188424455072186 tw6135491733723576056 tw11378359373851447733
tw13714587688437594083 tw4056715314799951296 tw15744425385379773332 tw13371291822083757103 tw4876922538200634331 tw7562704784005441552 tw7287686345278168909 tw15256462915842996163 tw319722438630351076 tw3297001976237243859
tw2317095575887692620 tw11420856880719268943 tw1213313085451313882 tw12849053595616485763 tw15900002286262301468 tw1155354906259214662 tw13830072916580220778 tw18124634275158168678 tw16674217015185106316 tw12869398530586945802
tw16684087943035331649 tw7709163926393886905 tw1682975962816497487 tw7350832384620604295 tw14669590522023666793 tw15731823427412082731 tw8016656942865657668 tw8948318071218804701 tw7345981074632171233 tw15479091716456259092
tw6798757592494260959 tw11303446062024763490 tw3289195151383284478 tw10713328962086858037 tw11438810767112751636 tw10960335599935684044 tw6535436158526758005 tw9516692023765412466 tw17243770702576539008 tw7104302207982727191
tw18301806681969948189 tw4994998412757477274 tw3129925882374086301 tw13459933408661034054 tw13240700640418647822 tw18344275744024372854 tw11202299332830040526 tw1749471581285643084 tw3426703245181136331 tw16855108283769971798
tw4665270440413209553 tw363961401274244987 tw18135713266302862386 tw8909127381941592879 tw6842855434104665312 tw4957358298914451478 tw7840970384074809998 tw2879485056562634684 tw8014373100828838913 tw13608512428599134820
tw4313382090202612189 tw9641659479592540729 tw15440714699155878423 tw7539248815670262195 tw9383215891936450071 tw4024379739665015261 tw7685606362330379093 tw13075132481361230997 tw6819004588104669154 tw2159028389335853296
tw8855072749183446969 tw17488533610935332276 tw1035991010981127517 tw14572635782524436787 tw11775829429051493401 tw13236628820503075056 tw17990262375110404457 tw478372501502811729 tw5977314295970600635 tw18234198763096507528:True)
set_option maxRecDepth 100000 in
set_option maxHeartbeats 0 in
theorem PySem.Challenge.cw_dutyproof_k38_held_up_no_longer_than_tol_holds : PySem.Challenge.rw_dutyproof_k38_held_up_no_longer_than_tol.Holds := by
 w_on;o_law;k_head;(case hw=>w_witness2)
 k_fill
 refine LW.walk (l:=PySem.Challenge.rw_dutyproof_k38_held_up_no_longer_than_tol) rfl rfl (λ w h Y=>⟨W.km_in_of Y,W.km_tabs_of Y⟩) ?HC ?F
 case HC=>exact λ w=>by kernel_rfl
 case F =>
  intro w mg fa h KX G hmg
  refine' LW.fin KX G hmg ?aA ?aB ?aD ?aE ?aF ?aG ?aH ?aI ?aJ ?aK ?aL ?aM ?aN ?aO ?aP ?aQ ?aR ?aS ?aT ?aU ?aV ?aW ?aX ?aY ?aZ ?bA ?bB ?bC ?bD ?bE ?bF ?bG ?bH ?bI ?bJ ?bK ?bL ?bM ?bN ?bO ?bP ?bQ ?bR ?bS ?bT ?bU ?bV ?bW ?bX ?bY ?bZ ?cA ?cB ?cC ?cD ?cE ?cF ?cG ?cH ?cI ?cJ ?cL ?cM ?cN ?cO ?cP ?cQ ?cR ?cT ?cU ?cV ?cW ?cX ?cY ?cZ ?dA ?dB ?dC ?dD ?dE ?dF ?dG ?dH ?dI ?dJ ?dK ?dL ?dM ?dN ?dO ?dP ?dQ ?dR ?dS ?dT ?dU ?dV ?dW ?dX ?dY ?dZ ?eA ?eB ?eC ?eD ?eE ?eF ?eG ?eH
  (case aA|aB|aD|aE|aF=>k_is)
  (case aG=>exact L4.J6 KX G LW.Jmq)
  (case aH=>exact L4.J6 KX G LW.Jf5)
  (case aI=>exact L4.J6 KX G LW.Jlr)
  (case aJ=>exact L4.J6 KX G LW.Jt4)
  (case aK=>exact L4.J6 KX G LW.Jlk)
  (case aL=>exact L4.J6 KX G LW.Jic)
  (case aM=>exact L4.J6 KX G LW.Jo5)
  (case aN=>exact L4.J6 KX G LW.Jo8)
  (case aO=>exact L4.J6 KX G LW.Jo7)
  (case aP=>exact L4.J6 KX G LW.Jln)
  (case aQ=>exact L4.J6 KX G LW.Jpa)
  (case aR=>exact L4.J6 KX G LW.Jid)
  (case aS=>exact L4.J6 KX G LW.Je9)
  (case aT=>exact L4.J6 KX G LW.Jlp)
  (case aU=>exact L4.J6 KX G LW.Jpb)
  (case aV=>exact L4.J6 KX G LW.Jlo)
  (case aW=>exact L4.J6 KX G LW.J1a)
  (case aX=>exact L4.J6 KX G LW.Jlq)
  (case aY=>exact L4.J6 KX G LW.Jmp)
  (case aZ=>exact L4.J6 KX G LW.Jmo)
  (case bA=>exact L4.J6 KX G LW.Jig)
  (case bB=>exact L4.J6 KX G LW.Jrn)
  (case bC=>exact L4.J6 KX G LW.Jjt)
  (case bD=>exact L4.J6 KX G LW.Jho)
  (case bE=>exact L4.J6 KX G LW.Jo6)
  (case bF=>exact L4.J6 KX G LW.Jie)
  (case bG=>exact L4.J6 KX G LW.Jjr)
  (case bH=>exact L4.J6 KX G LW.Jms)
  (case bI=>exact L4.J6 KX G LW.Jll)
  (case bJ=>exact L4.J6 KX G LW.Jlm)
  (case bK=>exact L4.J6 KX G LW.Jmr)
  (case bL=>exact L4.J6 KX G LW.Jo9)
  (case bM=>exact L4.J6 KX G LW.Jif)
  (case bN=>exact L4.J6 KX G LW.Jjs)
  (case bO=>(refine' LW.J0d KX G ?eI ?eJ ?eK ?eL;(case eI|eJ|eK|eL=>k_is)))
  (case bP=>(refine' LW.Jk8 ?eM ?eN ?eO ?eP ?eQ ?eR ?eS ?eT;(case eM|eN|eO|eP|eQ|eR|eS|eT=>k_is)))
  (case bQ=>exact L4.Qd LW.Jli)
  (case bR=>(refine' LW.Yt ?eU ?eV ?eW ?eX ?eY ?eZ ?fA ?fB ?fC ?fD ?fE ?fF ?fG ?fH ?fI ?fJ ?fK ?fL ?fM ?fN ?fO ?fP ?fQ ?fR ?fS ?fT ?fU ?fV ?fW ?fX ?fY;(case eU|eV|eW|eX|eY|eZ|fA|fB|fC|fD|fE|fF|fG|fH|fI|fJ|fK|fL|fM|fN|fO|fP|fQ|fR|fS|fT|fU|fV|fW|fX|fY=>k_is)))
  (case bS=>exact L4.Jtq LW.Jjn)
  (case bT=>exact L4.Qd LW.Jdz)
  (case bU=>exact L4.Qd LW.Jhm)
  (case bV=>exact L4.Qd LW.Je7)
  (case bW=>exact L4.Qd LW.Jjo)
  (case bX=>exact L4.Qd LW.Jh9)
  (case bY=>(refine' LW.Yt ?fZ ?gA ?gB ?gC ?gD ?gE ?gF ?gG ?gH ?gI ?gJ ?gK ?gL ?gM ?gN ?gO ?gP ?gQ ?gR ?gS ?gT ?gU ?gV ?gW ?gX ?gY ?gZ ?iA ?iB ?iC ?iD;(case fZ|gA|gB|gC|gD|gE|gF|gG|gH|gI|gJ|gK|gL|gM|gN|gO|gP|gQ|gR|gS|gT|gU|gV|gW|gX|gY|gZ|iA|iB|iC|iD=>k_is)))
  (case bZ=>exact L4.Jtq LW.Jlf)
  (case cA=>exact L4.Qd LW.Jlg)
  (case cB=>exact L4.Qd LW.Jlh)
  (case cC=>exact L4.Qd LW.Jjp)
  (case cD=>(refine' LW.Yt ?iE ?iF ?iG ?iH ?iI ?iJ ?iK ?iL ?iM ?iN ?iO ?iP ?iQ ?iR ?iS ?iT ?iU ?iV ?iW ?iX ?iY ?iZ ?jA ?jB ?jC ?jD ?jE ?jF ?jG ?jH ?jI;(case iE|iF|iG|iH|iI|iJ|iK|iL|iM|iN|iO|iP|iQ|iR|iS|iT|iU|iV|iW|iX|iY|iZ|jA|jB|jC|jD|jE|jF|jG|jH|jI=>k_is)))
  (case cE=>exact L4.Jtq LW.Jjq)
  (case cF=>exact L4.Qd LW.Jf4)
  (case cG=>exact L4.Qd LW.Jib)
  (case cH=>exact L4.Qd LW.Je8)
  (case cI=>exact L4.Qd LW.Jbo)
  (case cJ=>(refine' LW.Yt ?jJ ?jK ?jL ?jM ?jN ?jO ?jP ?jQ ?jR ?jS ?jT ?jU ?jV ?jW ?jX ?jY ?jZ ?lA ?lB ?lC ?lD ?lE ?lF ?lG ?lH ?lI ?lJ ?lK ?lL ?lM ?lN;(case jJ|jK|jL|jM|jN|jO|jP|jQ|jR|jS|jT|jU|jV|jW|jX|jY|jZ|lA|lB|lC|lD|lE|lF|lG|lH|lI|lJ|lK|lL|lM|lN=>k_is)))
  (case cL=>exact L4.Jtq LW.Jia)
  (case cM=>exact L4.Qd LW.Jfm)
  (case cN=>exact L4.Qd LW.Jhn)
  (case cO=>exact L4.Qd LW.Je8)
  (case cP=>exact L4.Qd LW.Jbo)
  (case cQ=>(refine' LW.Yt ?lO ?lP ?lQ ?lR ?lS ?lT ?lU ?lV ?lW ?lX ?lY ?lZ ?mA ?mB ?mC ?mD ?mE ?mF ?mG ?mH ?mI ?mJ ?mK ?mL ?mM ?mN ?mO ?mP ?mQ ?mR ?mS;(case lO|lP|lQ|lR|lS|lT|lU|lV|lW|lX|lY|lZ|mA|mB|mC|mD|mE|mF|mG|mH|mI|mJ|mK|mL|mM|mN|mO|mP|mQ|mR|mS=>k_is)))
  (case cR|cT|cU|cV|cW|cX|cY|cZ|dA|dB|dC|dD|dE|dF=>k_is)
  (case dG|dH|dI|dJ|dK|dL|dM|dN|dO|dP|dQ|dR=>kernel_rfl)
  (case dS|dT|dU|dV|dW|dX|dY|dZ|eA|eB|eC|eD|eE|eF|eG=>k_is)
  (case eH=>(refine' LW.J0c ?mT ?mU ?mV ?mW ?mX;(case mT|mU|mV|mW|mX=>k_is)))

import PyProof.Rows.All
import Wide.All
import OpenK.AllK
import Wide.FinOn
import Lean
import PyProof.EqAt
import PyProof.EqKinds
import PyProof.TupleCall
import PyProof.ExcBaseAll.ValueError
import PyProof.ExcAttrAll.ValueError
import PyProof.NsDelKeeps
import PySem.Challenge.RW_dutyproof_k34_whole_run_by_an_order
open Option renaming some→Za,none→Zc,map_eq_some_iff→ZF,isSome_iff_exists→Zbh,bind_some→ZbH,join_some→ZbI,map_some→ZcX,getD_some→ZdB
open List renaming getElem?_eq_getElem→Zb,length_map→Zi,getD_eq_getElem?_getD→Zk,mem_append_right→Zn,mem_cons_of_mem→Zp,getElem?_eq_some_iff→Zr,length_append→Zt,size_toArray→Zu,getElem?_map→Zv,mem_singleton→Zy,getElem_mem→Z3,map_cons→Z4,mem_cons→Z6,mem_cons_self→Z7,getElem?_append_right→Z9,length_cons→ZB,mem_map→ZC,getElem?_append_left→ZE,getElem?_set_ne→ZI,getElem_map→ZJ,getElem?_set_self→ZL,mem_append→ZM,range→ZN,replicate→ZS,not_mem_nil→ZT,cons_append→ZU,append_assoc→ZZ,length_singleton→Zac,lookup_cons→Zae,nil_append→Zag,take_succ_eq_append_getElem→Zai,mem_range→Zal,all_cons→Zao,mem_append_left→Zat,append_nil→Zaw,mem_iff_getElem→Zax,set_append_left→Zay,take_of_length_le→Zaz,map_nil→Za6,map_map→Za8,getElem?_cons_succ→Za9,getElem?_cons_zero→ZaA,eq_nil_of_length_eq_zero→ZaG,getElem?_eq_none→ZaJ,length_nil→ZaM,toArray→ZaO,replicate_succ→ZaX,drop_eq_getElem_cons→Zbc,all_eq_true→Zbf,ext_getElem→Zbg,length_range→Zbm,mem_filter→Zbn,length_set→Zbo,map_append→Zbp,length_take→Zbs,set_cons_zero→Zbw,length_replicate→Zbz,length_filter_le→Zb0,lookup→Zb2,reverse_cons→Zb3,flatten_cons→Zb4,ext_getElem?→Zb7,getElem?_range→ZbB,getElem?_replicate→ZbD,mapM_cons→ZbF,getElem_range→ZbM,find?_cons→ZbO,mem_of_getElem?→ZbV,length_reverse→Zcf,any_cons→Zch,nodup_cons→Zco,set_cons_succ→Zct,pairwise_cons→Zcu,length_eq_zero_iff→Zc2,drop_eq_nil_of_le→ZcA,eraseIdxIfInBounds_toArray→ZcE,set_append_right→ZcG,getElem_inj→ZcI,length_drop→ZcJ,filter_cons→ZcO,pairwise_append→ZcU,getElem_reverse→ZcV,filterMap_cons→Zdb,findIdx?_cons→Zdq,pairwise_iff_getElem→Zdt,findIdx?_eq_none_iff→Zdu,pairwise_map→Zdv,length_erase_of_mem→Zd0,nodup_range→ZdC,filter_cons_of_pos→ZdD,filter_cons_of_neg→ZdE,set_set→ZdN,of_mem_zip→ZdO,getElem?_toArray→ZdR,dropLast_eq_take→ZdS,sum_cons→Zek,map_drop→Zel,map_id'→Ze1
open PySem renaming wpAny_bind→Zd,Value→Ze,Shared→Zl,Addr→Zm,wpAny→Zx,mainGlobals→Zz,wpAny_pure→Z0,model→Z8,Program→ZA,starEach→ZG,Around→ZO,World→ZW,mem_of_lookup→Zaf,wpAny_holding→Zah,wpAny_Call_Name_kw→Zak,wpAny_mono→Zam,codeAny_builtin→Zar,Heap→Zas,wpAny_tryCatch→Zau,compareOp→Zav,plainId_quiet→Za4,FuncData→ZaD,assignEach→ZaE,binaryOp→ZaQ,wpAny_truthy_bool→ZaT,wpAny_pyIter_list→ZaU,sizeLine_eq→ZaY,wpAny_updateSeq→Zba,wpAny_letGo→Zbb,NameKind→Zbd,eval→Zbe,Scope→Zbi,backTo→Zbj,wpAny_seqItems→Zbk,wpAny_standAt→Zb9,wpAny_getItem_str_slice→ZbG,Spec→ZbJ,rawInt→ZbK,holding→ZbR,foldedSetIterable→ZbS,pyNext→ZbU,bootBuiltins→ZbY,Arguments→Zca,seqItems?→Zcb,scanBound→Zcc,behindInMarks→Zci,wpAny_newList→Zcj,letOwnedTupleGo→Zcm,wpAny_loadPart'→Zcp,sysModules→Zcr,builtinsNs→Zcs,sliceBounds→Zcv,wpAny_field→Zcw,keywordEach→Zcx,richCompare→Zcz,codeAny→Zc4,BindsTo→Zc7,codeAny_mono→Zc9,Operator→ZcD,PyData→ZcM,attributeBase→ZcP,strKind→ZcQ,wpAny_execs_nil→ZcW,post_val_or_str→ZcZ,swapsWith→Zdg,Stmt→Zdi,call_meets→Zdl,wpAny_setField→Zdn,closureFor→Zdo,getMethod→Zd2,codeAmong→Zd4,lastMarks→Zd5,noteFrame→Zd6,backToKw→Zd7,updateSeq→Zd8,wpAny_pyNext_list_item→ZdF,Result→ZdG,getItem→ZdI,assign→ZdJ,wpAny_pyNext_list_end→ZdP,bindArgs→ZdU,seqIndex_of→ZdW,subscripted→ZdX,intText?→ZdZ,Keyword→Zed,callerA→Zee,assignInOrder→Zei,pyIter→Zen,wpAny_call→Zep,argsOk→Zeq,wpAny_rule→Zer,Within→Zes,GenState→Zet,cLine→Zeu,seqIndex_neg→Zex,valueAt→Zey,standAt→Zez,Builtin→Ze0,IsPart→Ze3,setFlight→Ze4,strValues→Ze5
open Bool renaming true→Zg,false→Zj,and_eq_true→Zq,false_ne_true→Zs,false_eq_true→Zaa,or_eq_true→Za1,not_eq_true'→ZaH,true_eq_false→Zbx,eq_false_iff→ZbT,not_false→ZbW,not_true→Zcl,eq_iff_iff→Zcn,or_eq_false_iff→ZcR,false_and→Zdk
open PySem.Heap renaming get?_push_of_some→Zh,get?_update_other→Zw,lt_size→Z1,get?_push_size→Z2,get?_update_self→Za5,SameBut→Zc3,size_push→Zc5
open Nat renaming le_refl→Zo,ne_of_lt→Z5,lt_of_lt_of_le→ZK,zero_le→ZX,le_trans→ZY,lt_succ_self→Za2,ne_of_gt→ZaL,le_succ→ZaZ,lt_succ_of_lt→Zb5,add_right_cancel→ZbX,le_of_lt→ZbZ,lt_irrefl→Zcg,le_of_eq→Zc6,succ_le_succ→ZcK,le_of_not_lt→ZcL,sub_self→Zde,eq_zero_or_pos→Zdp,le_of_ble_eq_true→ZdT,add_assoc→Zej
open Int renaming emod_lt_of_pos→ZD,emod_nonneg→ZH,le_refl→ZaB,toNat_natCast→ZaF,mul_le_mul_of_nonneg_left→Zbl,le_trans→Zb6,lt_of_le_of_lt→ZbN,toNat→Zc1
open PySem.PyData renaming canLayAll0→ZP,canLay0→Zad,eqvAll→Zbr,eqv→Zbv,list→Zcy,tuple→Zdd
open Ne renaming symm→ZQ
open PySem.F renaming plain_min_loop→ZR,plain_max_loop→ZaC,entry_min_loop→ZaV,plainAttrs_list→Zc0,entry_max_loop→ZcB,slot_dict_setdefault→ZcY,args_tuple_add_2→Zdw,entry_tuple_add→Zd3,plain_list_iadd→ZdA,slot_tuple_add→ZdH
open PySem.Value renaming none→ZV,int→ZbQ,bool→ZcH,ref→Zdf,str→Zec,type→Zem
open PySem.Around renaming under_plainId→Zab,under→Zev
open Option.some renaming inj→Zaj,injEq→ZaI
open PySem.Obj renaming mapSeq→Zan,mapFields→ZaK,data_mapFields→ZaP,isFreed_of_fields→ZcF
open PyProof.Rows renaming seqObj→Zap,callWith_type1→ZaR,signs→Zby,evalAll_cons→Zb1,IntsAre→ZbA,callWith_builtin1→ZbE,evalAll_nil→Zck,get?_update_seq→Zcq,subscriptTail_builtinR→Zc8,mirror_size→ZcT,AllBare→Zdc,spliced_more→Zdr,spliced_none→Zds,subscriptTail→Zdx,listUpdate_at→Zdz,size_push'→ZdL,envOfC→ZdV
open True renaming intro→Zaq
open PySem.Str renaming ofString→Za0,length→Zeo
open PySem.NameKind renaming free→Za3,cell→Zdy
open PySem.Builtin.Builtins renaming bindParams→Za7
open ForInStep renaming yield→ZaN
open Array renaming getD_eq_getD_getElem?→ZaS,length_toList→ZaW,getElem?_eq_some_iff→Zbu,getElem?_eq_getElem→Zcd,getElem?_toList→ZdQ
open PyProof.Rows.F renaming plain_set_update_loop→Zbq,entry_set_update_loop→Zce
open False renaming elim→Zbt
open PySem.Builtin.List renaming listTooLong→Zb8
open PySem.W renaming kas_rev→ZbC,kas_asc→ZbL,kas_sort→ZbP,kas_descPart→ZcC,kas_desc→ZcS,kas_place→Zdh,kas_count→Zd9,kas_tail3→Zeg
open PySem.Walks renaming list→ZcN
open List.cons renaming injEq→Zda
open PySem.Calls renaming Name_function_global→Zdj,spliced_cons→Zdm,callWith_builtin→ZdK
open PySem.Builtin.Range renaming rangeSize→Zd1
open PySem.Txt renaming slice_le→ZdM,slice→Zef
open PyProof.Rows.IntsAre renaming int_at→ZdY
open Sum renaming inl→Zea,inr→Zeb
open PySem.Paired renaming length→Zeh
open PySem.Code renaming isFrame→Zew
open PySem.Data renaming cell→Ze2
noncomputable section
set_option Elab.async false
set_option linter.all false
set_option maxRecDepth 100000
abbrev CeT:=PySem.Str->Option PySem.Addr
abbrev QvT:=PySem.Value->PySem.Shared->Prop
abbrev PnT:=List (PySem.Addr×PySem.Obj)
theorem Zf {p:Prop}(h:False):p:=h.elim
namespace L2
open PySem PySem.Spec PyProof.Rows
abbrev Key:=Sum Int Str
def X9:Key->Ze->Bool
 | .inl k,v=>Value.isInt k v
 | .inr x,v=>Value.isStrOf x v
def keyH (w:ZW):Key->Int
 | .inl k=>hashInt k
 | .inr x=>hashStr w x
theorem VA:∀{k:Key}{v:Ze},X9 k v=Zg->(∃i t,k=Zea i/\v=ZbQ i t)∨(∃x t,k=Zeb x/\v=Zec x t)
 | .inl i,v,h=>by
  obtain⟨t,e⟩:=Value.isInt_shape (k:=i) (v:=v) h
  exact .inl ⟨i,t,rfl,e⟩
 | .inr x,v,h=>by
  obtain⟨t,e⟩:=Value.isStrOf_shape (x:=x) (v:=v) h
  exact .inr ⟨x,t,rfl,e⟩
theorem Jr2 (i:Int)(t:Tok):X9 (.inl i) (.int i t)=Zg:=by simp[X9,Value.isInt]
theorem Jr3 (x:Str)(t:Tok):X9 (.inr x) (.str x t)=Zg:=by simp[X9,Value.isStrOf]
theorem J0v (a b:Int):decide ((Zea a:Key)=Zea b)=(a==b):=by
 by_cases e:a=b
 ·subst e;simp
 ·have h:¬(Zea a:Key)=Zea b:=λ q=>e (Sum.inl.inj q)
  rw[decide_eq_false h]
  exact(beq_eq_false_iff_ne.mpr e).symm
theorem J0y (a b:Str):decide ((Zeb a:Key)=Zeb b)=decide (a=b):=by
 by_cases e:a=b
 ·subst e;simp
 ·have h:¬(Zeb a:Key)=Zeb b:=λ q=>e (Sum.inr.inj q)
  rw[decide_eq_false h,decide_eq_false e]
theorem J0w (a:Int)(b:Str):decide ((Zea a:Key)=Zeb b)=Zj:=decide_eq_false (λ q=>nomatch q)
theorem J0x (a:Str)(b:Int):decide ((Zeb a:Key)=Zea b)=Zj:=decide_eq_false (λ q=>nomatch q)
def Vp (prog:ZA)(w:ZW):PySem.KeyKind prog w Key where
 is:=X9
 hash:=keyH w
 inj:=λ v a b ha hb=>by
  rcases VA ha with⟨i,t,rfl,rfl⟩|⟨x,t,rfl,rfl⟩
  ·rcases VA hb with⟨j,u,rfl,e⟩|⟨y,u,rfl,e⟩
   ·injection e with e1 _;rw[e1]
   ·exact nomatch e
  ·rcases VA hb with⟨j,u,rfl,e⟩|⟨y,u,rfl,e⟩
   ·exact nomatch e
   ·injection e with e1 _;rw[e1]
 byValue:=λ k v h=>by
  rcases VA h with⟨i,t,rfl,rfl⟩|⟨x,t,rfl,rfl⟩<;>rfl
 pyHash:=λ hv h=>by
  rcases VA hv with⟨i,t,rfl,rfl⟩|⟨x,t,rfl,rfl⟩
  ·exact wpAny_pyHash_int h
  ·exact wpAny_pyHash_str h
 eqBool:=λ hu hv h=>by
  rcases VA hu with⟨i,t,rfl,rfl⟩|⟨x,t,rfl,rfl⟩
  ·rcases VA hv with⟨j,u,rfl,rfl⟩|⟨y,u,rfl,rfl⟩
   ·rw[J0v] at h;exact wpAny_eqBool_int h
   ·rw[J0w] at h;exact SeqAt.EqAt.int_str i t y u _ _ _ _ h
  ·rcases VA hv with⟨j,u,rfl,rfl⟩|⟨y,u,rfl,rfl⟩
   ·rw[J0x] at h;exact SeqAt.EqAt.str_int x t j u _ _ _ _ h
   ·rw[J0y] at h;exact wpAny_eqBool_str h
 «strs» :=λ k x t v h=>by
  rcases VA h with⟨i,u,rfl,e⟩|⟨y,u,rfl,e⟩
  ·exact nomatch e
  ·injection e with e1 _
   subst e1
   cases v<;>rfl
theorem Jnk (prog:ZA)(w:ZW)(i:Int)(t:Tok):(Vp prog w).is (.inl i) (.int i t)=Zg:=Jr2 i t
theorem Jnl (prog:ZA)(w:ZW)(x:Str)(t:Tok):(Vp prog w).is (.inr x) (.str x t)=Zg:=Jr3 x t
inductive V where
 | non|bl (b:Bool)|int (i:Int)|str (x:Str)|byt (b:Array UInt8)|flt (b:UInt64)|ref (a:Zm)|ty (n:String)
 deriving DecidableEq
def RelV:V->Ze->Prop
 | .non,u=>u=ZV
 | .bl b,u=>u=ZcH b
 | .int i,u=>∃t,u=ZbQ i t
 | .str x,u=>∃t,u=Zec x t
 | .byt b,u=>∃t,u=Value.bytes b t
 | .flt b,u=>∃t,u=Value.float b t
 | .ref a,u=>u=Zdf a
 | .ty n,u=>u=Zem n
abbrev Vals:List V->List Ze->Prop:=Paired RelV
theorem Vals.length {xs:List V}{us:List Ze}(r:Vals xs us):xs.length=us.length:=Zeh r
theorem Vals.get:∀{xs:List V}{us:List Ze}{i:Nat}{x:V},Vals xs us->xs[i]?=Za x->∃u,us[i]?=Za u/\RelV x u
 | _,_,_,_,.nil,e=>by simp at e
 | _,_,0,_,.cons r _,e=>by simp at e;subst e;exact⟨_,rfl,r⟩
 | _,_,i+1,x,.cons _ t,e=>by
  obtain⟨u,h1,h2⟩:=Vals.get (i:=i) (x:=x) t (by simpa using e)
  exact⟨u,by simpa using h1,h2⟩
theorem Vals.set {x:V}{u:Ze}(r:RelV x u):∀{xs:List V}{us:List Ze}(i:Nat),Vals xs us->Vals (xs.set i x) (us.set i u)
 | _,_,_,.nil=>.nil
 | _,_,0,.cons _ t=>.cons r t
 | _,_,i+1,.cons q t=>.cons q (Vals.set r i t)
theorem Vals.append:∀{xs ys:List V}{us ws:List Ze},Vals xs us->Vals ys ws->Vals (xs++ys) (us++ws)
 | _,_,_,_,.nil,s=>s
 | _,_,_,_,.cons r t,s=>.cons r (Vals.append t s)
theorem Vals.take:∀{xs:List V}{us:List Ze}(n:Nat),Vals xs us->Vals (xs.take n) (us.take n)
 | _,_,0,_=>.nil
 | _,_,_+1,.nil=>.nil
 | _,_,n+1,.cons r t=>.cons r (Vals.take n t)
theorem Vals.drop:∀{xs:List V}{us:List Ze}(n:Nat),Vals xs us->Vals (xs.drop n) (us.drop n)
 | _,_,0,r=>r
 | _,_,_+1,.nil=>.nil
 | _,_,n+1,.cons _ t=>Vals.drop n t
def RelO:Option V->Option Ze->Prop
 | some v,Za u=>RelV v u
 | none,Zc=>True
 | _,_=>False
def KV {κ:Type}:List (κ×V)->List (κ×Ze)->Prop:=Paired λ (p:κ×V)(q:κ×Ze)=>p.1=q.1/\RelV p.2 q.2
def kV:Key->V
 | .inl i=>.int i
 | .inr x=>.str x
inductive HO where
 /-- a list -/
 | lst (xs:List V)
 /-- a tuple (never changes) -/
 | tup (xs:List V)
 /-- a dict whose keys are ints and texts; one whose keys are tuples of ints and texts (the empty one is both) -/
 | dK (kvs:List (Key×V))|dT (kvs:List (List Key×V))
 /-- a set of ints: its members, its size -/
 | set (S:Int->Bool) (n:Nat)
 /-- an instance of the class at C, its dict at dx, its attributes -/
 | ins (C dx:Zm) (fs:List (Str×V))
 /-- the dict of the instance at x -/
 | own (x:Zm)
 /-- the dict of an exception -/
 | xd (fs:List (Str×V))
 /-- a bound method, f of x -/
 | met (f x:Zm)
 /-- a range object lo, lo + 1, .. below hi -/
 | rng (lo hi:Int)
 /-- a thing that is known to the object (the script; a dict while a loop walks it): read, never written while it is so -/
 | frz (o:Obj) (u:HO)
 /-- a code object's table -/
 | tbl (ps:Array Ze)
 /-- any other thing, by what is Zg of its one object (a def of one's own: SetO a S n := HO.ext λ h => ..) -/
 | ext (φ:Zas->Prop)
abbrev Hp:=Zm->Option HO
def upd (H:Hp)(a:Zm)(o:HO):Hp:=λ b=>if b=a then Za o else H b
theorem J7 {H:Hp}{a:Zm}{o:HO}:upd H a o a=Za o:=by unfold upd;rw[if_pos rfl]
theorem Jr {H:Hp}{a b:Zm}{o:HO}(h:b≠a):upd H a o b=H b:=by unfold upd;rw[if_neg h]
theorem Vq {H:Hp}{a b:Zm}{o:HO}(h:H a=Za o)(h':H b=Zc):a≠b:=by
 intro e;subst e;rw[h] at h';cases h'
section
variable (P:ZA)(w:ZW)
def JM (H:Hp)(h:Zas)(a:Zm):HO->Prop
 | .lst xs=>xs.length<=sizeLine/\∃(its:List Ze) (n:Nat),Vals xs its/\h.get? a=Za { cls:=.type "list",data:=.seq its.toArray n }
 | .tup xs=>xs.length<=sizeLine/\∃its:List Ze,Vals xs its/\IsTup h a its.toArray
 | .dK kvs=>kvs.length<=sizeLine/\(a==Zcr)=Zj/\∃vs,KV kvs vs/\h.DictOf (Vp P w) a vs
 | .dT kvs=>kvs.length<=sizeLine/\(a==Zcr)=Zj/\∃xs:List (List Key×Zm×Ze),
   Paired (λ (p:List Key×V)(q:List Key×Zm×Ze)=>p.1=q.1/\H q.2.1=Za (.tup (p.1.map kV))/\RelV p.2 q.2.2) kvs xs /\
   ∃o es ep,h.get? a=Za o/\o.ExactDict/\o.data=.dict es ep/\es.toList=xs.map (entryOfKey (tupleKind (Vp P w)))/\(xs.map (·.1)).Nodup
 | .set S n=>h.SetOf (intKind P w) a S n
 | .ins C dx fs=>H dx=Za (.own a)/\fs.length<=1000/\dx≠a/\h.get? a=Za (W.instObj C dx) /\
   ∃mA,h.Ns1 dx mA/\(∀f,RelO (fs.lookup f) (mA f))/\Zes mA (fs.map (·.1))
 | .own _=>∃o,h.get? a=Za o
 | .xd fs=>∃mA,h.Ns1 a mA/\∀f,RelO (fs.lookup f) (mA f)
 | .rng lo hi=>∃t u v,h.get? a=Za { cls:=.type "range",data:=.fields #[.int lo t,.int hi u,.int 1 v] }
 | .frz o u=>h.get? a=Za o/\JM H h a u
 | .tbl ps=>h.get? a=Za { cls:=.none,data:=.fields ps }
 | .met f x=>h.get? a=Za (W.methodObj (.ref f) (.ref x))
 | .ext φ=>φ h/\(∃o,h.get? a=Za o)/\∀h1 h2:Zas,φ h1->(∀o,h1.get? a=Za o->h2.get? a=Za o)->φ h2
def HOk (H:Hp)(h:Zas):Prop:=∀a o,H a=Za o->JM P w H h a o
end
section
variable {P:ZA}{w:ZW}{H H':Hp}{h h':Zas}{a:Zm}{o:HO}
theorem JM.lt (x:JM P w H h a o):a<h.objs.size:=by
 cases o with
 | lst xs=>obtain⟨_,_,_,_,e⟩:=x;exact Z1 e
 | tup xs=>obtain⟨_,_,_,p⟩:=x;exact p.lt
 | dK kvs=>obtain⟨_,_,_,_,o,_,_,e,_⟩:=x;exact Z1 e
 | dT kvs=>obtain⟨_,_,_,_,o,_,_,e,_⟩:=x;exact Z1 e
 | set S n=>obtain⟨o,_,_,_,e,_⟩:=x;exact Z1 e
 | ins C dx fs=>obtain⟨_,_,_,e,_⟩:=x;exact Z1 e
 | own y=>obtain⟨_,e⟩:=x;exact Z1 e
 | xd fs=>obtain⟨_,⟨_,_,_,e,_⟩,_⟩:=x;exact Z1 e
 | rng lo hi=>obtain⟨_,_,_,e⟩:=x;exact Z1 e
 | frz ob u=>obtain⟨e,_⟩:=x;exact Z1 e
 | tbl ps=>exact Z1 (show h.get? a=Za _ from x)
 | met f y=>exact Z1 (show h.get? a=Za _ from x)
 | ext φ=>obtain⟨_,⟨_,e⟩,_⟩:=x;exact Z1 e
theorem Paired.mapP {α β:Type}{F G:α->β->Prop}:∀{l₁:List α}{l₂:List β},Paired F l₁ l₂->(∀a b,F a b->G a b)->Paired G l₁ l₂
 | _,_,.nil,_=>.nil
 | _,_,.cons r t,f=>.cons (f _ _ r) (Paired.mapP t f)
theorem JM.stay (x:JM P w H h a o)(k:∀b u,(b=a∨H b=Za (.own a))->h.get? b=Za u->h'.get? b=Za u)
  (ho:∀b,H b=Za (.own a)->H' b=Za (.own a))(ht:∀b xs,H b=Za (.tup xs)->H' b=Za (.tup xs)):JM P w H' h' a o:=by
 induction o with
 | lst xs=>obtain⟨z,its,n,r,e⟩:=x;exact⟨z,its,n,r,k _ _ (.inl rfl) e⟩
 | tup xs=>obtain⟨z,its,r,ob,e,c⟩:=x;exact⟨z,its,r,ob,k _ _ (.inl rfl) e,c⟩
 | dK kvs=>obtain⟨z,y,vs,r,ob,es,ep,e,c⟩:=x;exact⟨z,y,vs,r,ob,es,ep,k _ _ (.inl rfl) e,c⟩
 | dT kvs =>
  obtain⟨z,y,xs,r,ob,es,ep,e,c⟩:=x
  exact⟨z,y,xs,Paired.mapP r λ p q z=>⟨z.1,ht _ _ z.2.1,z.2.2⟩,ob,es,ep,k _ _ (.inl rfl) e,c⟩
 | set S n=>obtain⟨ob,es,ep,t,e,c⟩:=x;exact⟨ob,es,ep,t,k _ _ (.inl rfl) e,c⟩
 | ins C dx fs =>
  obtain⟨d,z,ne,e,mA,⟨od,es,ep,e2,c⟩,r⟩:=x
  exact⟨ho _ d,z,ne,k _ _ (.inl rfl) e,mA,⟨od,es,ep,k _ _ (.inr d) e2,c⟩,r⟩
 | own y=>obtain⟨ob,e⟩:=x;exact⟨ob,k _ _ (.inl rfl) e⟩
 | xd fs=>obtain⟨mA,⟨od,es,ep,e,c⟩,r⟩:=x;exact⟨mA,⟨od,es,ep,k _ _ (.inl rfl) e,c⟩,r⟩
 | rng lo hi=>obtain⟨t,u,v,e⟩:=x;exact⟨t,u,v,k _ _ (.inl rfl) e⟩
 | frz ob u ih=>obtain⟨e,q⟩:=x;exact⟨k _ _ (.inl rfl) e,ih q⟩
 | tbl ps =>
  have e:h.get? a=Za { cls:=.none,data:=.fields ps }:=x
  show h'.get? a=Za { cls:=.none,data:=.fields ps }
  exact k a _ (.inl rfl) e
 | met f y =>
  have e:h.get? a=Za (W.methodObj (.ref f) (.ref y)):=x
  show h'.get? a=Za (W.methodObj (.ref f) (.ref y))
  exact k a _ (.inl rfl) e
 | ext φ=>obtain⟨p,⟨o,e⟩,st⟩:=x;exact⟨st _ _ p λ o q=>k _ _ (.inl rfl) q,⟨o,k _ _ (.inl rfl) e⟩,st⟩
theorem HOk.lt (x:HOk P w H h)(e:H a=Za o):a<h.objs.size:=(x a o e).lt
theorem HOk.fresh (x:HOk P w H h)(e:h.objs.size<=a):H a=Zc:=by
 cases q:H a with
 | none=>rfl
 | some u=>exact absurd (ZK (x.lt q) e) (Zcg _)
theorem HOk.kept (x:HOk P w H h)(k:∀b u,h.get? b=Za u->h'.get? b=Za u):HOk P w H h':=λ a o e =>
 (x a o e).stay (λ b u _ q=>k b u q) (λ _ q=>q) λ _ _ q=>q
theorem HOk.laid (x:HOk P w H h)(k:∀b u,h.get? b=Za u->h'.get? b=Za u)(hp:h.objs.size<=a)(new:JM P w (upd H a o) h' a o):HOk P w (upd H a o) h':=λ b u e=>by
 have hn:=x.fresh hp
 by_cases hb:b=a
 ·subst hb;rw[J7] at e;cases e;exact new
 ·rw[Jr hb] at e
  exact(x b u e).stay (λ c v _ q=>k c v q) (λ c q=>by rw[Jr (Vq q hn)];exact q) λ c xs q=>by rw[Jr (Vq q hn)];exact q
end
def Rd (H:Hp)(a:Zm)(u:HO):Prop:=H a=Za u∨∃o,H a=Za (.frz o u)
theorem Rd.of {H:Hp}{a:Zm}{u:HO}(h:H a=Za u):Rd H a u:=.inl h
theorem Rd.ok {P:ZA}{w:ZW}{H:Hp}{h:Zas}{a:Zm}{u:HO}(r:Rd H a u)(x:HOk P w H h):JM P w H h a u:=by
 rcases r with r|⟨o,r⟩
 ·exact x a u r
 ·obtain⟨_,q⟩:=x a _ r
  exact q
def Mut:Option HO->Prop
 | some (.lst _)=>True
 | some (.dK _)=>True
 | some (.dT _)=>True
 | some (.set _ _)=>True
 | some (.ins _ _ _)=>True
 | some (.ext _)=>True
 | _=>False
section
variable {P:ZA}{w:ZW}{H:Hp}{h h':Zas}{x e:Zm}{o':HO}
theorem HOk.write (ok:HOk P w H h)(mu:Mut (H x))(he:e=x∨H e=Za (.own x))(k:∀b u,b≠e->h.get? b=Za u->h'.get? b=Za u)(heo:∃u,h'.get? e=Za u)
  (new:JM P w (upd H x o') h' x o'):HOk P w (upd H x o') h':=λ b u q=>by
 have nown:∀c y,H c=Za (.own y)->c≠x:=λ c y r z=>by subst z;rw[r] at mu;exact mu
 have ntup:∀c xs,H c=Za (.tup xs)->c≠x:=λ c xs r z=>by subst z;rw[r] at mu;exact mu
 by_cases hb:b=x
 ·subst hb;rw[J7] at q;cases q;exact new
 ·rw[Jr hb] at q
  by_cases hbe:b=e
  ·have q':H b=Za (.own x):=by
    rcases he with z|z
    ·exact absurd (hbe.trans z) hb
    ·rw[hbe];exact z
   rw[q] at q';cases q'
   obtain⟨v,hv⟩:=heo
   exact⟨v,by rw[hbe];exact hv⟩
  ·refine(ok b u q).stay (λ c v hc r=>k c v ?_ r) (λ c r=>by rw[Jr (nown c b r)];exact r) λ c xs r=>by rw[Jr (ntup c xs r)];exact r
   rcases hc with rfl|hc
   ·exact hbe
   ·rintro rfl
    rcases he with z|z
    ·exact nown c b hc z
    ·rw[hc] at z;cases z;exact hb rfl
end
structure Un (fs ex:List Zm)(H H':Hp)(h h':Zas):Prop where
 keep:∀b o,h.get? b=Za o->H b=Zc->b∉fs->b∉ex->h'.get? b=Za o
 slot:∀b o,h.get? b=Za o->H b=Zc->b∈fs->b∉ex->∃sl,h'.get? b=Za { o with slots:=sl }
 free:∀b o,h.get? b=Za o->H b=Zc->b∉ex->H' b=Zc
 there:∀b o,h.get? b=Za o->b∉ex->∃o',h'.get? b=Za o'
 tups:∀b xs,H b=Za (.tup xs)->H' b=Za (.tup xs)
 frzs:∀b o u,H b=Za (.frz o u)->H' b=Za (.frz o u)
 tbls:∀b ps,H b=Za (.tbl ps)->∃more,H' b=Za (.tbl (ps++more))
section
variable {fs fs' ex ex':List Zm}{H H1 H2:Hp}{h h1 h2 h':Zas}{a x e:Zm}{o:HO}
theorem Un.any (u:Un fs ex H H1 h h1){b:Zm}{ob:Obj}(q:h.get? b=Za ob)(n:H b=Zc)(hx:b∉ex):∃sl,h1.get? b=Za { ob with slots:=sl }:=by
 by_cases hb:b∈fs
 ·exact u.slot b ob q n hb hx
 ·exact⟨ob.slots,u.keep b ob q n hb hx⟩
theorem Un.kept (k:∀b u,h.get? b=Za u->h'.get? b=Za u):Un fs ex H H h h' :=
 ⟨λ b ob q _ _ _=>k b ob q,λ b ob q _ _ _=>⟨ob.slots,k b ob q⟩,λ _ _ _ n _=>n,λ b ob q _=>⟨ob,k b ob q⟩,λ _ _ q=>q,λ _ _ _ q=>q,λ _ ps q=>⟨#[],by rw[q];simp⟩⟩
theorem Un.refl:Un fs ex H H h h:=Un.kept λ _ _ q=>q
theorem Un.laid (k:∀b u,h.get? b=Za u->h'.get? b=Za u)(hp:h.objs.size<=a)(hn:H a=Zc):Un fs ex H (upd H a o) h h' where
 keep:=λ b u q _ _ _=>k b u q
 slot:=λ b u q _ _ _=>⟨u.slots,k b u q⟩
 free:=λ b u q n _=>by rw[Jr (Z5 (ZK (Z1 q) hp))];exact n
 there:=λ b u q _=>⟨u,k b u q⟩
 tups:=λ b xs q=>by rw[Jr (Vq q hn)];exact q
 frzs:=λ b u xs q=>by rw[Jr (Vq q hn)];exact q
 tbls:=λ b ps q=>⟨#[],by rw[Jr (Vq q hn),q];simp⟩
theorem Un.write (mu:Mut (H x))(he:e=x∨H e=Za (.own x))(k:∀b u,b≠e->h.get? b=Za u->h'.get? b=Za u)(heo:∃u,h'.get? e=Za u):Un fs ex H (upd H x o) h h':=by
 have hx:∀b,H b=Zc->b≠x:=λ b n z=>by subst z;rw[n] at mu;exact mu
 have hb:∀b,H b=Zc->b≠e:=λ b n z=>by
  subst z
  rcases he with r|r
  ·exact hx b n r
  ·rw[n] at r;cases r
 have hm:∀b u,H b=Za u->¬Mut (Za u)->b≠x:=λ b u q nm z=>by subst z;rw[q] at mu;exact nm mu
 refine⟨λ b u q n _ _=>k b u (hb b n) q,λ b u q n _ _=>⟨u.slots,k b u (hb b n) q⟩,λ b u q n _=>by rw[Jr (hx b n)];exact n,λ b u q _=>?_,
  λ b xs q=>by rw[Jr (hm b _ q λ z=>z)];exact q,λ b u xs q=>by rw[Jr (hm b _ q λ z=>z)];exact q,λ b ps q=>⟨#[],by rw[Jr (hm b _ q λ z=>z),q];simp⟩⟩
 by_cases hbe:b=e
 ·subst hbe;exact heo
 ·exact⟨u,k b u hbe q⟩
end
def trk (h:Zas)(H:Hp):List Zm:=(ZN h.objs.size).filter λ a=>(H a).isSome
def hidT (h:Zas)(H:Hp):Zas:=W.hideAll h (trk h H)
theorem Jrr (h:Zas)(H:Hp):(hidT h H).objs.size=h.objs.size:=W.hideAll_size _ _
theorem Jt4 {h:Zas}{H:Hp}{b:Zm}{o:Obj}(e:h.get? b=Za o)(n:H b=Zc):(hidT h H).get? b=Za o :=
 W.hideAll_get _ e λ hm=>by
  have q:(H b).isSome=Zg:=(Zbn.mp hm).2
  rw[n] at q;simp at q
theorem Jyp {h:Zas}{H:Hp}{b:Zm}{o:Obj}(e:(hidT h H).get? b=Za o):h.get? b=Za o/\H b=Zc:=by
 have e':h.get? b=Za o:=W.of_hideAll (trk h H) e
 refine⟨e',?_⟩
 cases q:H b with
 | none=>rfl
 | some x =>
  have hm:b∈trk h H:=Zbn.mpr ⟨Zal.mpr (Z1 e'),by simp[q]⟩
  have z:(hidT h H).get? b=Zc:=W.hideAll_none (trk h H) hm
  rw[z] at e;cases e
structure Mod (K:W.Frag)(mg:Str->Option Ze)(base:Zas):Prop where
 kin:K.In base
 glob:base.Ns Zz mg
 blt:∃mb,base.Ns Zcs mb/\∀x:Str,x≠"__name__"->mb x=ZbY x
 nolimit:base.NoLimit
structure Cx where
 prog:ZA
 w:ZW
 K:W.Frag
 mg:Str->Option Ze
 base:Zas
 A:ZO
 N:List Str
 s₀:Zl
 H₀:Hp
 env:Env
 outer:List Env
 stack:List Env
 ex:List Zm
 fn:Str->Bool
 calm:Bool
 pn:PnT
 xe:QvT
def frs (l:List Env):List Zm:=l.filterMap (·.frame)
abbrev Cx.fs (X:Cx):List Zm:=frs X.outer
def Vis (sc:Zbi)(x:Str):Prop:=sc.names.lookup x=Za .local∨sc.names.lookup x=Za .cell∨sc.names.lookup x=Za .free
def Loc (sc:Zbi)(x:Str):Prop:=sc.names.lookup x=Za .local∨sc.names.lookup x=Za .cell
def Look (env:Env)(h:Zas)(m:Str->Option Ze)(x:Str)(u:Ze):Prop :=
 (env.kindOf x=Za .local/\m x=Za u)∨((env.kindOf x=Za .cell∨env.kindOf x=Za .free)/\∃c,env.cells.lookup x=Za c/\h.IsCell c (Za u))
structure Cx.Ok (X:Cx):Prop where
 mod:Mod X.K X.mg X.base
 kind:X.env.scope.kind=.function
 glob:X.env.globals=Zz
 blt:X.env.builtins=Zcs
 above:X.s₀.heap.objs.size<=X.env.locals
 inj:∀x y c,X.env.cells.lookup x=Za c->X.env.cells.lookup y=Za c->x=y
 has:∀x,(X.env.kindOf x=Za .cell∨X.env.kindOf x=Za .free)->∃c,X.env.cells.lookup x=Za c
 cab:∀x c,X.fn x=Zg->X.env.cells.lookup x=Za c->X.s₀.heap.objs.size<=c
 hd:X.calm=Zg->X.A.handled=Zc
 frames:X.A.frames=Za X.stack
 stk:X.stack=X.outer∨(X.stack=X.env::X.outer/\X.env.frame=Za X.env.locals)
 exf:∀b∈X.ex,b≠X.env.locals/\∀x c,X.env.cells.lookup x=Za c->c≠b
 bs:∀b o,X.base.get? b=Za o->X.s₀.heap.get? b=Za o/\X.H₀ b=Zc
 bsz:X.base.objs.size<=X.s₀.heap.objs.size
 noex:∀b o,X.base.get? b=Za o->b∉X.ex
 exfs:∀b∈X.ex,b∉X.fs
 funs:X.s₀.heap.FunFrames X.base X.outer
 frf:∀b∈X.fs,X.H₀ b=Zc
structure Inv (X:Cx)(pj:PnT)(σ:List (Option V))(H:Hp)(s:Zl):Prop where
 ok:X.Ok
 os:s.os=X.s₀.os
 bare:Zdc s.gens
 base:Un X.fs X.ex X.H₀ H X.s₀.heap s.heap
 loc:∃m,s.heap.Ns X.env.locals m/\∀(i:Nat)(x:Str)(v:V),X.N[i]?=Za x->σ[i]?=Za (Za v)->Vis X.env.scope x->∃u,RelV v u/\Look X.env s.heap m x u
 cell:∀x c,X.env.cells.lookup x=Za c->∃v,s.heap.IsCell c v
 free:H X.env.locals=Zc
 freeC:∀x c,X.env.cells.lookup x=Za c->H c=Zc
 pin:∀p∈X.pn++pj,s.heap.get? p.1=Za p.2/\H p.1=Zc/\p.1≠X.env.locals/\p.1∉X.fs/\∀v,p.2.data≠.cell v
 hok:HOk X.prog X.w H s.heap
 len:σ.length=X.N.length
section
variable {X:Cx}{pj:PnT}{σ:List (Option V)}{H H':Hp}{s:Zl}{h':Zas}
theorem Cx.Ok.nofr (ok:X.Ok){b:Zm}{o:Obj}(e:X.base.get? b=Za o):b∉X.fs:=λ hb=>by
 have:=(ok.funs.mem hb).1
 rw[e] at this;cases this
theorem Inv.bs (I:Inv X pj σ H s):∀b o,X.base.get? b=Za o->s.heap.get? b=Za o/\H b=Zc:=λ b o e =>
 ⟨I.base.keep b o (I.ok.bs b o e).1 (I.ok.bs b o e).2 (I.ok.nofr e) (I.ok.noex b o e),I.base.free b o (I.ok.bs b o e).1 (I.ok.bs b o e).2 (I.ok.noex b o e)⟩
theorem Inv.bk (I:Inv X pj σ H s):∀b o,X.base.get? b=Za o->s.heap.get? b=Za o:=λ b o e=>(I.bs b o e).1
theorem Inv.mod (I:Inv X pj σ H s):Mod X.K X.mg X.base:=I.ok.mod
theorem Inv.kIn (I:Inv X pj σ H s):X.K.In s.heap:=I.ok.mod.kin.keeps I.bk
theorem Inv.lt (I:Inv X pj σ H s):X.env.locals<s.heap.objs.size:=let ⟨_,hn,_⟩:=I.loc;hn.lt
theorem Inv.sz (I:Inv X pj σ H s):X.s₀.heap.objs.size<=s.heap.objs.size:=ZY I.ok.above (ZbZ I.lt)
theorem Inv.nofs (I:Inv X pj σ H s){a:Zm}(h:s.heap.objs.size<=a):a∉X.fs:=λ hb=>by
 obtain⟨_,o,ho,_⟩:=I.ok.funs.mem hb
 exact absurd (ZK (Z1 ho) (ZY I.sz h)) (Zcg _)
theorem Inv.cne (I:Inv X pj σ H s):∀x c,X.env.cells.lookup x=Za c->c≠X.env.locals:=λ x c e z=>by
 obtain⟨v,o,ho,hd⟩:=I.cell x c e
 obtain⟨m,⟨o',es,ep,ho',hd',_⟩,_⟩:=I.loc
 rw[z,ho'] at ho;cases ho;rw[hd'] at hd;cases hd
theorem Inv.funs (I:Inv X pj σ H s):s.heap.FunFrames X.base X.outer:=by
 have all:∀(l:List Env),(∀b∈frs l,b∈X.fs)->X.s₀.heap.FunFrames X.base l->s.heap.FunFrames X.base l:=by
  intro l
  induction l with
  | nil=>intro _ _;trivial
  | cons env r ih =>
   intro hs hl
   obtain⟨hk,⟨L,o,hf,hn,ho,hd⟩,hr⟩:=hl
   have hL:L∈X.fs:=hs L (by unfold frs;rw[Zdb,hf];exact Z7)
   obtain⟨sl,e⟩:=I.base.slot L o ho (I.ok.frf L hL) hL λ z=>I.ok.exfs L z hL
   exact⟨hk,⟨L,_,hf,hn,e,hd⟩,ih (λ b hb=>hs b (by unfold frs;rw[Zdb,hf];exact Zp _ hb)) hr⟩
 exact all X.outer (λ _ hb=>hb) I.ok.funs
theorem Inv.stack (I:Inv X pj σ H s):s.heap.FunFrames X.base X.stack:=by
 rcases I.ok.stk with e|⟨e,hf⟩
 ·rw[e];exact I.funs
 ·rw[e]
  obtain⟨m,hn,_⟩:=I.loc
  refine .cons (by rw[I.ok.kind];decide) hf hn ?_ I.funs
  exact Heap.get?_none_of_le (ZY I.ok.bsz I.ok.above)
theorem Inv.stkSub (I:Inv X pj σ H s):∀b∈frs X.stack,b∈X.env.locals::X.fs:=λ b hb=>by
 rcases I.ok.stk with e|⟨e,hf⟩
 ·rw[e] at hb;exact Zp _ hb
 ·rw[e] at hb
  unfold frs at hb
  rw[Zdb,hf] at hb
  exact hb
theorem Inv.stkFree (I:Inv X pj σ H s):∀b∈frs X.stack,H b=Zc:=λ b hb=>by
 rcases Z6.mp (I.stkSub b hb) with e|hb
 ·rw[e];exact I.free
 ·obtain⟨_,o,ho,_⟩:=I.ok.funs.mem hb
  exact I.base.free b o ho (I.ok.frf b hb) λ z=>I.ok.exfs b z hb
theorem Inv.step {g':Array Zet}{t':Nat}{d':Drawn}{ch:List Zm}(I:Inv X pj σ H s)
  (hch:∀b∈ch,(b∈X.ex∨X.s₀.heap.objs.size<=b)/\b≠X.env.locals/\(∀x c,X.env.cells.lookup x=Za c->c≠b)/\∀p∈X.pn++pj,p.1≠b)
  (keep:∀b o,b≠X.env.locals->b∉X.fs->b∉ch->s.heap.get? b=Za o->H b=Zc->h'.get? b=Za o)
  (slot:∀b o,b≠X.env.locals->b∈X.fs->b∉ch->s.heap.get? b=Za o->H b=Zc->∃sl,h'.get? b=Za { o with slots:=sl })(free:∀b o,b∉ch->s.heap.get? b=Za o->H b=Zc->H' b=Zc)
  (there:∀b o,b∉ch->s.heap.get? b=Za o->∃o',h'.get? b=Za o')
  (tups:∀b xs,H b=Za (.tup xs)->H' b=Za (.tup xs))(frzs:∀b o u,H b=Za (.frz o u)->H' b=Za (.frz o u))(tbls:∀b ps,H b=Za (.tbl ps)->∃more,H' b=Za (.tbl (ps++more)))
  (ns:∀m,s.heap.Ns X.env.locals m->h'.Ns X.env.locals m)(hok:HOk X.prog X.w H' h')(hg:Zdc g') :
  Inv X pj σ H' { s with heap:=h',gens:=g',drawn:=d',toks:=t' }:=by
 have neL:∀b o,X.s₀.heap.get? b=Za o->b≠X.env.locals:=λ b o e=>Z5 (ZK (Z1 e) I.ok.above)
 have neC:∀b o,X.s₀.heap.get? b=Za o->b∉X.ex->b∉ch:=λ b o e hx hb=>by
  rcases(hch b hb).1 with z|z
  ·exact hx z
  ·exact absurd (ZK (Z1 e) z) (Zcg _)
 have cellK:∀x c,X.env.cells.lookup x=Za c->∀v,s.heap.IsCell c v->h'.IsCell c v:=λ x c e v ⟨o,ho,hd⟩=>by
  have nch:c∉ch:=λ z=>(hch c z).2.2.1 x c e rfl
  by_cases hc:c∈X.fs
  ·obtain⟨sl,q⟩:=slot c o (I.cne x c e) hc nch ho (I.freeC x c e)
   exact⟨_,q,hd⟩
  ·exact⟨o,keep c o (I.cne x c e) hc nch ho (I.freeC x c e),hd⟩
 refine⟨I.ok,I.os,hg,⟨λ b o e n hb hx=>?_,λ b o e n hb hx=>?_,λ b o e n hx=>?_,λ b o e hx=>?_,λ b xs e=>tups b xs (I.base.tups b xs e),λ b o xs e=>frzs b o xs (I.base.frzs b o xs e),λ b ps e=>?_⟩,?_,λ x c e=>?_,?_,λ x c e=>?_,λ p hp=>?_,hok,I.len⟩
 ·exact keep b o (neL b o e) hb (neC b o e hx) (I.base.keep b o e n hb hx) (I.base.free b o e n hx)
 ·obtain⟨sl,e1⟩:=I.base.slot b o e n hb hx
  obtain⟨sl',e2⟩:=slot b _ (neL b o e) hb (neC b o e hx) e1 (I.base.free b o e n hx)
  exact⟨sl',e2⟩
 ·obtain⟨o',e1⟩:=I.base.there b o e hx
  exact free b o' (neC b o e hx) e1 (I.base.free b o e n hx)
 ·obtain⟨o',e1⟩:=I.base.there b o e hx
  exact there b o' (neC b o e hx) e1
 ·obtain⟨m1,e1⟩:=I.base.tbls b ps e
  obtain⟨m2,e2⟩:=tbls b _ e1
  exact⟨m1++m2,by rw[e2,Array.append_assoc]⟩
 ·obtain⟨m,hn,hl⟩:=I.loc
  refine⟨m,ns m hn,λ i x v e1 e2 e3=>?_⟩
  obtain⟨u,r,l⟩:=hl i x v e1 e2 e3
  refine⟨u,r,?_⟩
  rcases l with l|⟨k,c,e,z⟩
  ·exact .inl l
  ·exact .inr ⟨k,c,e,cellK x c e _ z⟩
 ·obtain⟨v,z⟩:=I.cell x c e
  exact⟨v,cellK x c e v z⟩
 ·obtain⟨m,⟨o,_,_,ho,_⟩,_⟩:=I.loc
  exact free _ o (λ z=>(hch _ z).2.1 rfl) ho I.free
 ·obtain⟨v,o,ho,hd⟩:=I.cell x c e
  exact free c o (λ z=>(hch c z).2.2.1 x c e rfl) ho (I.freeC x c e)
 ·obtain⟨e,n,ne,nf,d⟩:=I.pin p hp
  have nch:p.1∉ch:=λ z=>(hch p.1 z).2.2.2 p hp rfl
  exact⟨keep p.1 p.2 ne nf nch e n,free p.1 p.2 nch e n,ne,nf,d⟩
theorem Inv.un {t':Nat}(I:Inv X pj σ H s)(u:Un X.fs [] H H' s.heap h')(hok:HOk X.prog X.w H' h'):Inv X pj σ H' { s with heap:=h',toks:=t' }:=by
 obtain⟨m,⟨o,es,ep,ho,r⟩,_⟩:=id I.loc
 obtain⟨sl,hL⟩:=u.any ho I.free (by simp)
 exact I.step (g':=s.gens) (d':=s.drawn) (ch:=[]) (λ _ z=>nomatch z) (λ b o _ hb _ e n=>u.keep b o e n hb (by simp)) (λ b o _ hb _ e n=>u.slot b o e n hb (by simp)) (λ b o _ e n=>u.free b o e n (by simp)) (λ b o _ e=>u.there b o e (by simp)) u.tups u.frzs u.tbls (λ m' hm=>by
  obtain⟨o',es',ep',ho',r'⟩:=hm
  rw[ho] at ho';cases ho'
  exact⟨_,es',ep',hL,r'⟩) hok I.bare
theorem Inv.call {g':Array Zet}{t':Nat}{d':Drawn}{ch:List Zm}(I:Inv X pj σ H s)(u:Un (frs X.stack) ch H H' s.heap h')(hok:HOk X.prog X.w H' h')(hg:Zdc g')
  (hch:∀b∈ch,(b∈X.ex∨X.s₀.heap.objs.size<=b)/\b≠X.env.locals/\(∀x c,X.env.cells.lookup x=Za c->c≠b)/\∀p∈X.pn++pj,p.1≠b) :
  Inv X pj σ H' { s with heap:=h',gens:=g',drawn:=d',toks:=t' }:=by
 obtain⟨m,⟨o,es,ep,ho,r⟩,_⟩:=id I.loc
 obtain⟨sl,hL⟩:=u.any ho I.free λ z=>(hch _ z).2.1 rfl
 exact I.step (ch:=ch) hch (λ b o hL hb hc e n=>u.keep b o e n (λ z=>(Z6.mp (I.stkSub b z)).elim hL hb) hc) (λ b o _ _ hc e n=>u.any e n hc) (λ b o hc e n=>u.free b o e n hc) (λ b o hc e=>u.there b o e hc) u.tups u.frzs u.tbls (λ m' hm=>by
  obtain⟨o',es',ep',ho',r'⟩:=hm
  rw[ho] at ho';cases ho'
  exact⟨_,es',ep',hL,r'⟩) hok hg
theorem Inv.turned {t':Nat}{it:Zm}(I:Inv X pj σ H s)(k:∀b o,b≠it->s.heap.get? b=Za o->h'.get? b=Za o)(hn:H it=Zc)(hL:it≠X.env.locals)
  (h1:it∈X.ex∨X.s₀.heap.objs.size<=it)(h2:∀x c,X.env.cells.lookup x=Za c->c≠it)(h3:∀p∈X.pn++pj,p.1≠it):Inv X pj σ H { s with heap:=h',toks:=t' }:=by
 have nit:∀b u,H b=Za u->b≠it:=λ b u e z=>by rw[z,hn] at e;cases e
 refine I.step (g':=s.gens) (d':=s.drawn) (ch:=[it]) (λ b hb=>?_) (λ b o _ _ hc e _=>k b o (λ z=>hc (by simp[z])) e) (λ b o _ _ hc e _=>⟨o.slots,k b o (λ z=>hc (by simp[z])) e⟩) (λ _ _ _ _ n=>n)
  (λ b o hc e=>⟨o,k b o (λ z=>hc (by simp[z])) e⟩) (λ _ _ e=>e) (λ _ _ _ e=>e) (λ b ps e=>⟨#[],by rw[e];simp⟩) (λ m hm=>?_) (λ b u e=>?_) I.bare
 ·have e:b=it:=by simpa using hb
  subst e
  exact⟨h1,hL,h2,h3⟩
 ·obtain⟨o,es,ep,ho,r⟩:=hm
  exact⟨o,es,ep,k _ o (ZQ hL) ho,r⟩
 ·refine(I.hok b u e).stay (λ c v hc q=>k c v ?_ q) (λ _ q=>q) λ _ _ q=>q
  rcases hc with z|z
  ·rw[z];exact nit b u e
  ·exact nit c _ z
theorem Inv.tok (I:Inv X pj σ H s)(t:Nat):Inv X pj σ H { s with toks:=t }:=I.un (h':=s.heap) (t':=t) Un.refl I.hok
theorem Inv.kept {t':Nat}(I:Inv X pj σ H s)(k:∀b u,s.heap.get? b=Za u->h'.get? b=Za u):Inv X pj σ H { s with heap:=h',toks:=t' }:=I.un (Un.kept k) (I.hok.kept k)
theorem Inv.laid {a:Zm}{o:HO}{t':Nat}(I:Inv X pj σ H s)(k:∀b u,s.heap.get? b=Za u->h'.get? b=Za u)(hp:s.heap.objs.size<=a)(new:JM X.prog X.w (upd H a o) h' a o) :
  Inv X pj σ (upd H a o) { s with heap:=h',toks:=t' }:=I.un (Un.laid k hp (I.hok.fresh hp)) (I.hok.laid k hp new)
theorem Inv.write {x e:Zm}{o:HO}{t':Nat}(I:Inv X pj σ H s)(mu:Mut (H x))(he:e=x∨H e=Za (.own x))(k:∀b u,b≠e->s.heap.get? b=Za u->h'.get? b=Za u)(heo:∃u,h'.get? e=Za u)
  (new:JM X.prog X.w (upd H x o) h' x o):Inv X pj σ (upd H x o) { s with heap:=h',toks:=t' }:=I.un (Un.write mu he k heo) (I.hok.write mu he k heo new)
theorem Inv.pins_of {pj':PnT}(I:Inv X pj σ H s)(h:∀p∈pj',s.heap.get? p.1=Za p.2/\H p.1=Zc/\p.1≠X.env.locals/\p.1∉X.fs/\∀v,p.2.data≠.cell v):Inv X pj' σ H s :=
 ⟨I.ok,I.os,I.bare,I.base,I.loc,I.cell,I.free,I.freeC,λ p hp=>(ZM.mp hp).elim (λ z=>I.pin p (Zat _ z)) (h p),I.hok,I.len⟩
theorem Jok {N:List Str}(hN:N.Nodup){i j:Nat}{x:Str}(a:N[i]?=Za x)(b:N[j]?=Za x):i=j:=by
 obtain⟨h1,e1⟩:=Zr.mp a
 obtain⟨h2,e2⟩:=Zr.mp b
 exact(ZcI hN).mp (e1.trans e2.symm)
theorem Js3 {M:Model}{A:ZO}{E:QvT}{i:Nat}{x:Str}{v:V}{u:Ze}{Q:Unit->Zl->Prop}(I:Inv X pj σ H s)(hN:X.N.Nodup)(hi:X.N[i]?=Za x)(hx:Loc X.env.scope x)(r:RelV v u)
  (h:∀s',Inv X pj (σ.set i (Za v)) H s'->(∃a,Zc3 a s.heap s'.heap/\(a=X.env.locals∨X.env.cells.lookup x=Za a))->Q () s')(hf:X.fn x=Zg∨X.env.scope.names.lookup x=Za .local:=by assumption):Zx M A (storeName X.env x u) Q E s:=by
 obtain⟨m,hn,hl⟩:=id I.loc
 have hcls:(X.env.scope.kind==.class||(X.env.scope.kind==.module&&X.env.locals != X.env.globals))=Zj:=by rw[I.ok.kind];rfl
 have hiσ:i<σ.length:=by rw[I.len];exact(Zr.mp hi).1
 have cne:=I.cne
 have tracked:∀{a:Zm}{h':Zas},(∃o,s.heap.get? a=Za o/\H a=Zc)->Zc3 a s.heap h'->HOk X.prog X.w H h':=λ {a h'} ha hs b ob e=>by
  obtain⟨_,_,hfree⟩:=ha
  refine(I.hok b ob e).stay (λ c w' hc q=>(hs.2 c ?_).trans q) (λ _ q=>q) λ _ _ q=>q
  rintro rfl
  rcases hc with rfl|hc
  ·rw[hfree] at e;cases e
  ·rw[hfree] at hc;cases hc
 rcases hx with hk|hk
 ·refine wpAny_storeName_local hk hn (λ h' hn' hs=>?_) hcls
  obtain⟨oL,_,_,hoL,_⟩:=id hn
  refine h _ ⟨I.ok,I.os,I.bare,⟨λ b o e n hb hx=>?_,λ b o e n hb hx=>?_,I.base.free,λ b o e hx=>?_,I.base.tups,I.base.frzs,I.base.tbls⟩,⟨_,hn',λ j y v' e1 e2 e3=>?_⟩,λ y c e=>?_,I.free,I.freeC,λ p hp=>?_,tracked ⟨oL,hoL,I.free⟩ hs,by simpa using I.len⟩ ⟨_,hs,.inl rfl⟩
  ·exact(hs.2 b (Z5 (ZK (Z1 e) I.ok.above))).trans (I.base.keep b o e n hb hx)
  ·obtain⟨sl,e1⟩:=I.base.slot b o e n hb hx
   exact⟨sl,(hs.2 b (Z5 (ZK (Z1 e) I.ok.above))).trans e1⟩
  ·obtain⟨o',e1⟩:=I.base.there b o e hx
   exact⟨o',(hs.2 b (Z5 (ZK (Z1 e) I.ok.above))).trans e1⟩
  ·by_cases hj:j=i
   ·subst hj
    rw[hi] at e1;cases e1
    rw[ZL hiσ] at e2
    cases e2
    exact⟨u,r,.inl ⟨hk,by simp⟩⟩
   ·rw[ZI (ZQ hj)] at e2
    obtain⟨u',r',q⟩:=hl j y v' e1 e2 e3
    refine⟨u',r',?_⟩
    rcases q with⟨k,e⟩|⟨k,c,e,z⟩
    ·refine .inl ⟨k,?_⟩
     have:y≠x:=λ e=>hj (Jok hN e1 (e▸hi))
     simp[this,e]
    ·exact .inr ⟨k,c,e,z.sameBut hs (cne y c e)⟩
  ·obtain⟨w',z⟩:=I.cell y c e
   exact⟨w',z.sameBut hs (cne y c e)⟩
  ·obtain⟨e,n,ne,nf,d⟩:=I.pin p hp
   exact⟨(hs.2 p.1 ne).trans e,n,ne,nf,d⟩
 ·have hfn:X.fn x=Zg:=by
   rcases hf with z|z
   ·exact z
   ·rw[z] at hk;cases hk
  obtain⟨c,hc⟩:=I.ok.has x (.inl hk)
  obtain⟨w',z⟩:=I.cell x c hc
  refine wpAny_storeName_cell I.ok.kind hk hc z (λ h' hc' hs=>?_)
  obtain⟨oc,hoc,hocd⟩:=id z
  refine h { s with heap:=h' } ⟨I.ok,I.os,I.bare,⟨λ b o e n hb hx=>?_,λ b o e n hb hx=>?_,I.base.free,λ b o e hx=>?_,I.base.tups,I.base.frzs,I.base.tbls⟩,⟨m,hn.sameBut hs (ZQ (cne x c hc)),λ j y v' e1 e2 e3=>?_⟩,λ y c' e=>?_,I.free,I.freeC,λ p hp=>?_,tracked ⟨oc,hoc,I.freeC x c hc⟩ hs,by simpa using I.len⟩ ⟨c,hs,.inr hc⟩
  ·exact(hs.2 b (Z5 (ZK (Z1 e) (I.ok.cab x c hfn hc)))).trans (I.base.keep b o e n hb hx)
  ·obtain⟨sl,e1⟩:=I.base.slot b o e n hb hx
   exact⟨sl,(hs.2 b (Z5 (ZK (Z1 e) (I.ok.cab x c hfn hc)))).trans e1⟩
  ·obtain⟨o',e1⟩:=I.base.there b o e hx
   exact⟨o',(hs.2 b (Z5 (ZK (Z1 e) (I.ok.cab x c hfn hc)))).trans e1⟩
  ·by_cases hj:j=i
   ·subst hj
    rw[hi] at e1;cases e1
    rw[ZL hiσ] at e2
    cases e2
    exact⟨u,r,.inr ⟨.inl hk,c,hc,hc'⟩⟩
   ·rw[ZI (ZQ hj)] at e2
    obtain⟨u',r',q⟩:=hl j y v' e1 e2 e3
    refine⟨u',r',?_⟩
    rcases q with q|⟨k,c',e,z'⟩
    ·exact .inl q
    ·refine .inr ⟨k,c',e,z'.sameBut hs ?_⟩
     rintro rfl
     exact hj (Jok hN e1 (I.ok.inj _ _ _ e hc▸hi))
  ·by_cases hcc:c'=c
   ·subst hcc;exact⟨_,hc'⟩
   ·obtain⟨w2,z2⟩:=I.cell y c' e
    exact⟨w2,z2.sameBut hs hcc⟩
  ·obtain⟨e,n,ne,nf,d⟩:=I.pin p hp
   refine⟨(hs.2 p.1 ?_).trans e,n,ne,nf,d⟩
   intro q
   rw[q,hoc] at e
   have q':oc=p.2:=Zaj e
   exact d w' (by rw[<- q'];exact hocd)
theorem Jg3 {M:Model}{A:ZO}{E:QvT}{i:Nat}{x:Str}{v:V}{u:Ze}{Q:Unit->Zl->Prop}(I:Inv X pj σ H s)(hN:X.N.Nodup)(hi:X.N[i]?=Za x)(hx:Loc X.env.scope x)(r:RelV v u)
  (h:∀s',Inv X pj (σ.set i (Za v)) H s'->Q () s')(hf:X.fn x=Zg∨X.env.scope.names.lookup x=Za .local:=by assumption):Zx M A (storeName X.env x u) Q E s :=
 Js3 I hN hi hx r (λ s' I' _=>h s' I') hf
theorem Inv.call' {s':Zl}{ch:List Zm}(I:Inv X pj σ H s)(ho:s'.os=s.os)(u:Un (frs X.stack) ch H H' s.heap s'.heap)(hok:HOk X.prog X.w H' s'.heap)(hg:Zdc s'.gens)
  (hch:∀b∈ch,(b∈X.ex∨X.s₀.heap.objs.size<=b)/\b≠X.env.locals/\(∀x c,X.env.cells.lookup x=Za c->c≠b)/\∀p∈X.pn++pj,p.1≠b):Inv X pj σ H' s':=by
 obtain⟨h',g',d',t',o'⟩:=s'
 have e:o'=s.os:=ho
 subst e
 exact I.call (g':=g') (t':=t') (d':=d') u hok hg hch
end
abbrev XK:=Ze->Option Zm->Hp->Prop
abbrev St:=List (Option V)
abbrev VK:=V->Hp->Prop
abbrev TE:=St->Hp->VK->Prop
abbrev TT:=St->Hp->(Bool->Hp->Prop)->Prop
abbrev TA:=St->Hp->(List V->Hp->Prop)->Prop
structure Ends where
 nx:St->Hp->Prop
 rt:VK
 bk:St->Hp->Prop:=λ _ _=>False
 ct:St->Hp->Prop:=λ _ _=>False
abbrev TS:=Ends->St->Hp->Prop
def EP (X:Cx)(pj:PnT)(σ:St)(Q:VK)(u:Ze)(s':Zl):Prop:=∃v H',Inv X pj σ H' s'/\RelV v u/\Q v H'
def TP (X:Cx)(pj:PnT)(σ:St)(Q:Bool->Hp->Prop)(b:Bool)(s':Zl):Prop:=∃H',Inv X pj σ H' s'/\Q b H'
def SP (X:Cx)(pj:PnT)(D:Ends)(f:Flow)(s':Zl):Prop :=
 match f with
 | .next=>∃σ' H',Inv X pj σ' H' s'/\D.nx σ' H'
 | .brk=>∃σ' H',Inv X pj σ' H' s'/\D.bk σ' H'
 | .cont=>∃σ' H',Inv X pj σ' H' s'/\D.ct σ' H'
 | .ret u=>∃v σ' H',Inv X pj σ' H' s'/\RelV v u/\D.rt v H'
def PE (X:Cx)(e:Expr)(t:TE):Prop :=
 ∀(pj:PnT)(s:Zl)(σ:St)(H:Hp)(Q:VK),Inv X pj σ H s->t σ H Q->Zx (Z8 X.prog X.w) X.A (Zbe e X.env) (EP X pj σ Q) X.xe s
def PSs (X:Cx)(st:List Zdi)(t:TS):Prop :=
 ∀(pj:PnT)(s:Zl)(σ:St)(H:Hp)(D:Ends),Inv X pj σ H s->t D σ H->Zx (Z8 X.prog X.w) X.A (execs st X.env) (SP X pj D) X.xe s
theorem thn {α:Type}{t:Sem α}{Q Q':α->Zl->Prop}{M:Model}{A:ZO}{E:QvT}{s:Zl}(h:Zx M A t Q E s)(hQ:∀a s,Q a s->Q' a s):Zx M A t Q' E s:=Zam h hQ λ _ _ x=>x
section
variable {X:Cx}
def tVar (i:Nat):TE:=λ σ H Q=>∃v,σ[i]?=Za (Za v)/\Q v H
def tC (v:V):TE:=λ _ H Q=>Q v H
theorem J1q {i:Nat}{x:Str}{pos:Pos}(hN:X.N[i]?=Za x)(hv:Vis X.env.scope x)(hd:(x==("__debug__":Str))=Zj:=by decide)(hcd:(x==("__classdict__":Str))=Zj:=by decide):PE X (.Name x pos) (tVar i):=by
 intro pj s σ H Q I h
 obtain⟨v,e,h⟩:=h
 obtain⟨m,hn,hl⟩:=I.loc
 obtain⟨u,r,l⟩:=hl i x v hN e hv
 have fin:EP X pj σ Q u s:=⟨v,H,I,r,h⟩
 rcases l with⟨hk,hm⟩|⟨hk,c,hc,hcell⟩
 ·exact wpAny_Name (wpAny_loadName_local I.ok.kind hk hn hm fin) hd
 ·rcases hk with hk|hk
  ·exact wpAny_Name (wpAny_loadName_cell I.ok.kind hk hc hcell fin) hd
  ·exact wpAny_Name (wpAny_loadName_free I.ok.kind hk hc hcell fin hcd) hd
theorem J1n {i j pos}:PE X (.Constant (.int i) j pos) (tC (.int i)):=λ _ _ _ H _ I h=>wpAny_Constant_int ⟨.int i,H,I.tok _,⟨_,rfl⟩,h⟩
theorem J3y {b j pos}:PE X (.Constant (.bool b) j pos) (tC (.bl b)):=λ _ _ _ H _ I h=>Constant_bool ⟨.bl b,H,I,rfl,h⟩
theorem J1o {j pos}:PE X (.Constant .none j pos) (tC .non):=λ _ _ _ H _ I h=>Constant_none ⟨.non,H,I,rfl,h⟩
theorem J1p {x j pos}:PE X (.Constant (.str x) j pos) (tC (.str x)):=λ _ _ _ H _ I h=>Calls.Constant_str ⟨.str x,H,I.tok _,⟨_,rfl⟩,h⟩
def Gl (X:Cx)(x:Str):Prop:=X.env.kindOf x=Za .globalImplicit
theorem Xp {E:QvT}{pj:PnT}{s:Zl}{σ:St}{H:Hp}{x:Str}{u:Ze}{pos:Pos}{Q:QvT}(I:Inv X pj σ H s)(hg:Gl X x)(hm:X.mg x=Za u)(h:Q u s)
  (hd:(x==("__debug__":Str))=Zj:=by decide):Zx (Z8 X.prog X.w) X.A (Zbe (.Name x pos) X.env) Q E s :=
 Zdj I.ok.kind hg (Calls.loadGlobal_global (by rw[I.ok.glob];exact I.mod.glob.keeps I.bk) hm h) hd
theorem QG {E:QvT}{pj:PnT}{s:Zl}{σ:St}{H:Hp}{x:Str}{u:Ze}{pos:Pos}{Q:QvT}(I:Inv X pj σ H s)(hg:Gl X x)(hm:X.mg x=Zc)(hv:ZbY x=Za u)(h:Q u s)
  (hn:x≠"__name__":=by decide)(hd:(x==("__debug__":Str))=Zj:=by decide):Zx (Z8 X.prog X.w) X.A (Zbe (.Name x pos) X.env) Q E s:=by
 obtain⟨mb,h1,h2⟩:=I.mod.blt
 exact Zdj I.ok.kind hg (Calls.loadGlobal_builtin (by rw[I.ok.glob];exact I.mod.glob.keeps I.bk) hm (by rw[I.ok.blt];exact h1.keeps I.bk) ((h2 x hn).trans hv) h) hd
theorem Jyt {x:Str}{v:V}{u:Ze}{pos:Pos}(hg:Gl X x)(hm:X.mg x=Za u)(r:RelV v u)(hd:(x==("__debug__":Str))=Zj:=by decide):PE X (.Name x pos) (tC v) :=
 λ _ _ _ H _ I h=>Xp I hg hm ⟨v,H,I,r,h⟩ hd
variable {a b:Expr}{ta tb:TE}{pos:Pos}
variable {tA tB':TT}{rest:List Expr}
end
def SqL (K:W.Frag)(H:Hp)(a:Zm)(xs:List V):Prop :=
 Rd H a (.lst xs) ∨
  ∃(o:Obj) (its:Array Ze) (n:Nat),K.lookup a=Za o/\o.cls=.type "list"/\o.dict=Zc/\o.data=.seq its n/\its.size<=sizeLine/\Vals xs its.toList
def SqT (K:W.Frag)(H:Hp)(a:Zm)(xs:List V):Prop :=
 Rd H a (.tup xs) ∨
  ∃(o:Obj) (its:Array Ze) (n:Nat),K.lookup a=Za o/\o.cls=.type "tuple"/\o.data=.seq its n/\its.size<=sizeLine/\Vals xs its.toList
def absV:Ze->Option V
 | .none=>Za .non
 | .bool b=>Za (.bl b)
 | .int i _=>Za (.int i)
 | .str x _=>Za (.str x)
 | .bytes b _=>Za (.byt b)
 | .float b _=>Za (.flt b)
 | .ref a=>Za (.ref a)
 | .type n=>Za (.ty n)
 | _=>Zc
theorem RelV.abs {x:V}{u:Ze}(r:RelV x u):absV u=Za x:=by
 cases x with
 | non=>cases r;rfl
 | bl _=>cases r;rfl
 | int _=>obtain⟨t,rfl⟩:=r;rfl
 | str _=>obtain⟨t,rfl⟩:=r;rfl
 | byt _=>obtain⟨t,rfl⟩:=r;rfl
 | flt _=>obtain⟨t,rfl⟩:=r;rfl
 | ref _=>cases r;rfl
 | ty _=>cases r;rfl
theorem RelV.inj {x y:V}{u:Ze}(r:RelV x u)(q:RelV y u):x=y:=Zaj (r.abs.symm.trans q.abs)
theorem Vals.inj:∀{xs ys:List V}{us:List Ze},Vals xs us->Vals ys us->xs=ys
 | _,_,_,.nil,.nil=>rfl
 | _,_,_,.cons r t,.cons r' t'=>by rw[r.inj r',Vals.inj t t']
section
variable {X:Cx}{pj:PnT}{σ:St}{H:Hp}{s:Zl}{a:Zm}{xs ys:List V}
theorem SqL.of {K:W.Frag}(h:H a=Za (.lst xs)):SqL K H a xs:=.inl (.inl h)
theorem SqT.of {K:W.Frag}(h:H a=Za (.tup xs)):SqT K H a xs:=.inl (.inl h)
theorem Inv.list (I:Inv X pj σ H s)(h:SqL X.K H a xs):∃its:List Ze,Vals xs its/\PlainL s.heap a its.toArray/\xs.length<=sizeLine:=by
 rcases h with h|⟨o,its,n,hk,hc,hd,hs,hz,r⟩
 ·obtain⟨z,its,n,r,e⟩:=h.ok I.hok
  exact⟨its,r,⟨_,n,e,rfl,rfl,rfl⟩,z⟩
 ·refine⟨its.toList,r,⟨o,n,I.kIn a o hk,hc,hd,by simpa using hs⟩,?_⟩
  have e:=r.length
  simp only[ZaW] at e
  omega
theorem Inv.tuple (I:Inv X pj σ H s)(h:SqT X.K H a xs):∃its:List Ze,Vals xs its/\IsTup s.heap a its.toArray/\xs.length<=sizeLine:=by
 rcases h with h|⟨o,its,n,hk,hc,hs,hz,r⟩
 ·obtain⟨z,its,r,p⟩:=h.ok I.hok
  exact⟨its,r,p,z⟩
 ·refine⟨its.toList,r,⟨o,I.kIn a o hk,hc,n,by simpa using hs⟩,?_⟩
  have e:=r.length
  simp only[ZaW] at e
  omega
theorem Inv.list_inj (I:Inv X pj σ H s)(h:SqL X.K H a xs)(h':SqL X.K H a ys):xs=ys:=by
 obtain⟨its,r,⟨o,n,e,_,_,d⟩,_⟩:=I.list h
 obtain⟨its',r',⟨o',n',e',_,_,d'⟩,_⟩:=I.list h'
 rw[e] at e';cases e'
 rw[d] at d'
 injection d' with d1 _
 have:its=its':=by simpa using congrArg Array.toList d1
 subst this
 exact r.inj r'
theorem Inv.tuple_inj (I:Inv X pj σ H s)(h:SqT X.K H a xs)(h':SqT X.K H a ys):xs=ys:=by
 obtain⟨its,r,⟨o,e,_,n,d⟩,_⟩:=I.tuple h
 obtain⟨its',r',⟨o',e',_,n',d'⟩,_⟩:=I.tuple h'
 rw[e] at e';cases e'
 rw[d] at d'
 injection d' with d1 _
 have:its=its':=by simpa using congrArg Array.toList d1
 subst this
 exact r.inj r'
end
abbrev Cx.wish (X:Cx)(E:QvT):Cx:={ X with xe:=E }
abbrev Cx.nox (X:Cx):Cx:=X.wish λ _ _=>False
theorem Cx.Ok.wish {X:Cx}(ok:X.Ok)(E:QvT):(X.wish E).Ok :=
 ⟨ok.mod,ok.kind,ok.glob,ok.blt,ok.above,ok.inj,ok.has,ok.cab,ok.hd,ok.frames,ok.stk,ok.exf,ok.bs,ok.bsz,ok.noex,ok.exfs,ok.funs,ok.frf⟩
theorem Cx.Ok.unwish {X:Cx}{E:QvT}(ok:(X.wish E).Ok):X.Ok :=
 ⟨ok.mod,ok.kind,ok.glob,ok.blt,ok.above,ok.inj,ok.has,ok.cab,ok.hd,ok.frames,ok.stk,ok.exf,ok.bs,ok.bsz,ok.noex,ok.exfs,ok.funs,ok.frf⟩
section
variable {X:Cx}{pj:PnT}{σ:St}{H:Hp}{s:Zl}{E:QvT}
theorem Inv.wish (I:Inv X pj σ H s)(E:QvT):Inv (X.wish E) pj σ H s:=⟨I.ok.wish E,I.os,I.bare,I.base,I.loc,I.cell,I.free,I.freeC,I.pin,I.hok,I.len⟩
theorem Inv.unwish (I:Inv (X.wish E) pj σ H s):Inv X pj σ H s:=⟨I.ok.unwish,I.os,I.bare,I.base,I.loc,I.cell,I.free,I.freeC,I.pin,I.hok,I.len⟩
end
section
variable {X:Cx}{st:Zdi}{rest:List Zdi}{t u:TS}{e:Expr}{te:TE}{pos:Pos}
theorem Inv.quiet {pj:PnT}{σ:St}{H:Hp}{s:Zl}(I:Inv X pj σ H s):interactive X.env=Zj:=by simp[interactive,I.ok.kind]
end
abbrev TSet:=V->V->V->Hp->(Hp->Prop)->Prop
def PSet (X:Cx)(t:TSet):Prop :=
 ∀(pj:PnT)(s:Zl)(σ:St)(H:Hp)(o i v:V)(ov iv u:Ze)(Q:Hp->Prop),Inv X pj σ H s->RelV o ov->RelV i iv->RelV v u->t o i v H Q ->
  Zx (Z8 X.prog X.w) X.A (setItem ov iv u) (λ _ s'=>∃H',Inv X pj σ H' s'/\Q H') X.xe s
section
variable {X:Cx}{pos:Pos}
end
structure It where
 go:Nat->Hp->Prop
 yld:Nat->Hp->V->Hp->Prop
 stop:Nat->Hp->Prop
def FpOk (X:Cx)(pj:PnT)(H:Hp)(b:Zm):Prop :=
 H b=Zc/\b≠X.env.locals/\b∉X.fs/\(b∈X.ex∨X.s₀.heap.objs.size<=b)/\(∀x c,X.env.cells.lookup x=Za c->c≠b)/\∀p∈X.pn++pj,p.1≠b
theorem Inv.fpOk {X:Cx}{pj:PnT}{σ:St}{H H':Hp}{s:Zl}{b:Zm}(I:Inv X pj σ H s)(hb:s.heap.objs.size<=b)(hn:H' b=Zc):FpOk X pj H' b:=by
 refine⟨hn,ZaL (ZK I.lt hb),I.nofs hb,.inr (ZY I.sz hb),λ x c e z=>?_,λ p hp z=>?_⟩
 ·obtain⟨v,q⟩:=I.cell x c e
  exact absurd (ZK q.lt (by rw[z];exact hb)) (Zcg _)
 ·exact absurd (ZK (Z1 (I.pin p hp).1) (by rw[z];exact hb)) (Zcg _)
structure Turn (P:ZA)(w:ZW)(K:W.Frag)(tg:Expr)(J:It)(fp:List Zm)(it:Zm)(tn:Nat->Zas->Prop):Prop where
 mem:it∈fp
 obj:∀i h,tn i h->∀b∈fp,∃o,h.get? b=Za o/\∀v,o.data≠.cell v
 keep:∀i h h',tn i h->(∀b∈fp,∀o,h.get? b=Za o->h'.get? b=Za o)->tn i h'
 item:∀(X:Cx),X.prog=P->X.w=w->X.K=K->X.calm=Zg->∀(i:Nat)(pj:PnT)(s:Zl)(σ:St)(H:Hp)(E:QvT),Inv X pj σ H s->(∀b∈fp,FpOk X pj H b)->tn i s.heap->J.go i H ->
  Zx (Z8 P w) X.A (ZbU (.ref it)) (λ r s1=>∃u,r=Za u /\
   Zx (Z8 P w) X.A (Zcm tg (.ref it) u) (λ _ s2=>∃x H',Inv X pj σ H' s2/\RelV x u/\J.yld i H x H'/\tn (i+1) s2.heap/\∀b∈fp,H' b=Zc) E s1) E s
 done:∀(X:Cx),X.prog=P->X.w=w->X.K=K->X.calm=Zg->∀(i:Nat)(pj:PnT)(s:Zl)(σ:St)(H:Hp)(E:QvT),Inv X pj σ H s->(∀b∈fp,FpOk X pj H b)->tn i s.heap->J.stop i H ->
  Zx (Z8 P w) X.A (ZbU (.ref it)) (λ r s1=>r=Zc/\Inv X pj σ H s1) E s
 self:∀(A:ZO)(i:Nat)(s:Zl)(Q:QvT)(E:QvT),tn i s.heap->Q (.ref it) s->Zx (Z8 P w) A (Zen (.ref it)) Q E s
def PIE (X:Cx)(pj:PnT)(σ:St)(tg:Expr)(R:It->Hp->Prop)(itv:Ze)(s2:Zl):Prop :=
 ∃(it:Zm)(fp:List Zm)(tn:Nat->Zas->Prop)(J:It)(H':Hp),itv=.ref it/\Inv X pj σ H' s2/\Turn X.prog X.w X.K tg J fp it tn/\tn 0 s2.heap/\(∀b∈fp,FpOk X pj H' b)/\R J H'
theorem Jt2 {M:Model}{A:ZO}{E:QvT}{s:Zl}{tg:Expr}{it:Zm}{u:Ze}{o:Obj}{n:String}{vs:Array Ze}{Q:Unit->Zl->Prop}(ho:s.heap.get? it=Za o)(hc:o.cls=.type n)(hd:o.data=.fields vs)
  (hn:["enumerate","zip","dict_itemiterator","dict_reverseitemiterator","odict_iterator","itertools.zip_longest","itertools.pairwise"].contains n=Zj)(hQ:Q () s):Zx M A (Zcm tg (.ref it) u) Q E s:=by
 unfold Zcm
 cases tg<;>first
  | exact Z0 hQ
  | (cases u<;>first
    | exact Z0 hQ
    | (refine Zd (wpAny_load ho ?_)
       rw[hc,hd]
       show Zx M A (if (["enumerate","zip","dict_itemiterator","dict_reverseitemiterator","odict_iterator","itertools.zip_longest","itertools.pairwise"].contains n&&vs[0]?==Za (ZbK _))=Zg then _ else _) Q E s
       rw[if_neg (by intro h;rw[hn,Zdk] at h;cases h)]
       exact Z0 hQ))
def Itl (K:W.Frag)(a:Zm):It :=
 ⟨λ i H=>∃xs x,SqL K H a xs/\xs[i]?=Za x,λ i H x H'=>H'=H/\∀xs,SqL K H a xs->xs[i]?=Za x,λ i H=>∃xs,SqL K H a xs/\xs.length<=i⟩
def Itt (K:W.Frag)(a:Zm):It :=
 ⟨λ i H=>∃xs x,SqT K H a xs/\xs[i]?=Za x,λ i H x H'=>H'=H/\∀xs,SqT K H a xs->xs[i]?=Za x,λ i H=>∃xs,SqT K H a xs/\xs.length<=i⟩
def Itr (lo:Int)(n:Nat):It:=⟨λ i _=>i<n,λ i H x H'=>H'=H/\x=.int (lo+i),λ i _=>n<=i⟩
theorem Jmu {P:ZA}{w:ZW}{K:W.Frag}{tg:Expr}(a it:Zm):Turn P w K tg (Itl K a) [it] it (λ i h=>h.IsListIter it a i) where
 mem:=by simp
 obj:=λ i h st b hb=>by
  have e:b=it:=by simpa using hb
  subst e
  obtain⟨o,e,c,d⟩:=st
  exact⟨o,e,λ v z=>by rw[d] at z;cases z⟩
 keep:=λ i h h' st k=>st.at λ o e=>k it (by simp) o e
 item:=by
  intro X hP hw hK hc i pj s σ H E I hf st hg
  subst hP hw hK
  obtain⟨xs,x,hq,hx⟩:=hg
  obtain⟨its,rv,p,hz⟩:=I.list hq
  obtain⟨u,hu,ru⟩:=rv.get hx
  obtain⟨f0,f1,f2,f3,f4,f5⟩:=hf it (by simp)
  refine ZdF st p.isList (x:=u) (by simpa using hu) λ h' st' sb=>?_
  have I1:Inv X pj σ H { s with heap:=h' }:=I.turned (t':=s.toks) (λ b o hb e=>(sb.2 b hb).trans e) f0 f1 f3 f4 f5
  obtain⟨o,e,c,d⟩:=id st'
  exact⟨u,rfl,Jt2 (s:={ s with heap:=h' }) e c d (by decide) ⟨x,H,I1,ru,⟨rfl,λ ys hy=>by rw[I.list_inj hy hq];exact hx⟩,st',λ b hb=>(hf b hb).1⟩⟩
 done:=by
  intro X hP hw hK hc i pj s σ H E I hf st hg
  subst hP hw hK
  obtain⟨xs,hq,hx⟩:=hg
  obtain⟨its,rv,p,hz⟩:=I.list hq
  obtain⟨f0,f1,f2,f3,f4,f5⟩:=hf it (by simp)
  have hl:=rv.length
  exact ZdP (I.ok.hd hc) st p.isList (by simp;omega) λ h' eb=>⟨rfl,I.turned (t':=s.toks) (λ b o hb e=>eb b o hb e) f0 f1 f3 f4 f5⟩
 self:=λ _ _ _ _ _ st h=>wpAny_pyIter_listiter st h
theorem Jqp {P:ZA}{w:ZW}{K:W.Frag}{tg:Expr}(a it:Zm):Turn P w K tg (Itt K a) [it] it (λ i h=>h.IsTupleIter it a i) where
 mem:=by simp
 obj:=λ i h st b hb=>by
  have e:b=it:=by simpa using hb
  subst e
  obtain⟨o,e,c,d⟩:=st
  exact⟨o,e,λ v z=>by rw[d] at z;cases z⟩
 keep:=λ i h h' st k=>st.at λ o e=>k it (by simp) o e
 item:=by
  intro X hP hw hK hc i pj s σ H E I hf st hg
  subst hP hw hK
  obtain⟨xs,x,hq,hx⟩:=hg
  obtain⟨its,rv,p,hz⟩:=I.tuple hq
  obtain⟨u,hu,ru⟩:=rv.get hx
  obtain⟨f0,f1,f2,f3,f4,f5⟩:=hf it (by simp)
  refine wpAny_pyNext_tuple_item st (show s.heap.IsTuple a its.toArray from p) (x:=u) (by simpa using hu) λ h' st' sb=>?_
  have I1:Inv X pj σ H { s with heap:=h' }:=I.turned (t':=s.toks) (λ b o hb e=>(sb.2 b hb).trans e) f0 f1 f3 f4 f5
  obtain⟨o,e,c,d⟩:=id st'
  exact⟨u,rfl,Jt2 (s:={ s with heap:=h' }) e c d (by decide) ⟨x,H,I1,ru,⟨rfl,λ ys hy=>by rw[I.tuple_inj hy hq];exact hx⟩,st',λ b hb=>(hf b hb).1⟩⟩
 done:=by
  intro X hP hw hK hc i pj s σ H E I hf st hg
  subst hP hw hK
  obtain⟨xs,hq,hx⟩:=hg
  obtain⟨its,rv,p,hz⟩:=I.tuple hq
  obtain⟨f0,f1,f2,f3,f4,f5⟩:=hf it (by simp)
  have hl:=rv.length
  exact wpAny_pyNext_tuple_end (I.ok.hd hc) st (show s.heap.IsTuple a its.toArray from p) (by simp;omega) λ h' eb=>⟨rfl,I.turned (t':=s.toks) (λ b o hb e=>eb b o hb e) f0 f1 f3 f4 f5⟩
 self:=λ _ _ _ _ _ st h=>wpAny_pyIter_tupleiter st h
theorem Jqo {P:ZA}{w:ZW}{K:W.Frag}{tg:Expr}(it:Zm)(lo:Int)(n:Nat):Turn P w K tg (Itr lo n) [it] it (λ i h=>IsRangeIter h it (lo+(i:Nat)*1) ((n:Int)-(i:Nat)) 1) where
 mem:=by simp
 obj:=λ i h st b hb=>by
  have e:b=it:=by simpa using hb
  subst e
  exact⟨_,st,λ v z=>by
   have z':Data.fields _=Ze2 v:=z
   cases z'⟩
 keep:=λ i h h' st k=>k it (by simp) _ st
 item:=by
  intro X hP hw hK hc i pj s σ H E I hf st hg
  subst hP hw hK
  obtain⟨f0,f1,f2,f3,f4,f5⟩:=hf it (by simp)
  have W:=Walks.range (prog:=X.prog) (w:=X.w) (I.ok.hd hc) it lo 1 n
  refine W.item i s _ _ hg st λ v h' tk hv st' kk=>?_
  obtain⟨t,rfl⟩:=hv
  have I1:Inv X pj σ H { s with heap:=h',toks:=tk }:=I.turned (λ b o hb e=>kk b o (by simpa using hb) e) f0 f1 f3 f4 f5
  refine⟨_,rfl,Jt2 (s:={ s with heap:=h',toks:=tk }) (n:="range_iterator") st' rfl rfl (by decide) ⟨.int (lo+i),H,I1,⟨t,?_⟩,⟨rfl,rfl⟩,st',λ b hb=>(hf b hb).1⟩⟩
  rw[Int.mul_one]
 done:=by
  intro X hP hw hK hc i pj s σ H E I hf st hg
  subst hP hw hK
  obtain⟨f0,f1,f2,f3,f4,f5⟩:=hf it (by simp)
  exact wpAny_pyNext_range_end (I.ok.hd hc) st (by have:n<=i:=hg;omega) λ h' eb=>⟨rfl,I.turned (t':=s.toks) (λ b o hb e=>eb b o hb e) f0 f1 f3 f4 f5⟩
 self:=λ _ _ _ _ _ st h=>wpAny_pyIter_rangeiter st h
section
variable {X:Cx}{tg:Expr}
theorem Jux {pj:PnT}{σ:St}{H:Hp}{s:Zl}{R:It->Hp->Prop}{E:QvT}{lo hi:Int}{t u v:Tok}{tk:Nat}(I:Inv X pj σ H s)(h1: -(2^62)<=lo)(h2:lo<2^62)(h3: -(2^62)<=hi)(h4:hi<2^62)
  (q:R (Itr lo (hi-lo).toNat) H):Zx (Z8 X.prog X.w) X.A (Zen (.ref s.heap.objs.size)) (PIE X pj σ tg R) E { s with heap:=s.heap.push { cls:=.type "range",data:=.fields #[.int lo t,.int hi u,.int 1 v] },toks:=tk }:=by
 refine wpAny_pyIter_range (IsRange.new ..) (small_one h1 h2 h3 h4) ?_
 have I1:Inv X pj σ H { s with heap:=s.heap.push { cls:=.type "range",data:=.fields #[.int lo t,.int hi u,.int 1 v] },toks:=tk }:=I.kept λ b o e=>Zh _ e
 refine⟨(s.heap.push { cls:=.type "range",data:=.fields #[.int lo t,.int hi u,.int 1 v] }).objs.size,[(s.heap.push { cls:=.type "range",data:=.fields #[.int lo t,.int hi u,.int 1 v] }).objs.size],_,_,H,rfl,
  I1.kept (t':=tk) λ b o e=>Zh _ e,Jqo _ lo (hi-lo).toNat,?_,λ b hb=>?_,q⟩
 ·have e1:lo+((0:Nat):Int)*1=lo:=by simp
  have e2:(((hi-lo).toNat:Nat):Int)-((0:Nat):Int)=Zd1 lo hi 1:=by rw[rangeSize_one];split<;>omega
  show IsRangeIter _ _ (lo+((0:Nat):Int)*1) ((((hi-lo).toNat:Nat):Int)-((0:Nat):Int)) 1
  rw[e1,e2]
  exact Z2 _ rfl
 ·have e:b=(s.heap.push { cls:=.type "range",data:=.fields #[.int lo t,.int hi u,.int 1 v] }).objs.size:=by simpa using hb
  subst e
  exact I1.fpOk (Zo _) (I1.hok.fresh (Zo _))
def QJ (fp:List Zm)(h:Zas):PnT:=fp.filterMap λ b=>(h.get? b).map λ o=>(b,o)
theorem Yx {fp:List Zm}{h:Zas}{b:Zm}{o:Obj}(hb:b∈fp)(e:h.get? b=Za o):(b,o)∈QJ fp h:=List.mem_filterMap.mpr ⟨b,hb,by rw[e];rfl⟩
theorem Jsk {fp:List Zm}{h:Zas}{p:Zm×Obj}(hp:p∈QJ fp h):p.1∈fp/\h.get? p.1=Za p.2:=by
 obtain⟨b,hb,e⟩:=List.mem_filterMap.mp hp
 cases q:h.get? b with
 | none=>rw[q] at e;cases e
 | some o =>
  rw[q] at e
  have e':(b,o)=p:=Zaj e
  subst e'
  exact⟨hb,q⟩
theorem Inv.pinned {pj:PnT}{σ:St}{H:Hp}{s:Zl}{fp:List Zm}(I:Inv X pj σ H s)(hf:∀b∈fp,FpOk X pj H b)(ho:∀b∈fp,∃o,s.heap.get? b=Za o/\∀v,o.data≠.cell v):Inv X (pj++QJ fp s.heap) σ H s :=
 I.pins_of λ p hp=>(ZM.mp hp).elim (λ z=>I.pin p (Zn _ z)) λ z=>by
  obtain⟨hb,e⟩:=Jsk z
  obtain⟨f0,f1,f2,_⟩:=hf p.1 hb
  obtain⟨o,e',d⟩:=ho p.1 hb
  rw[e] at e';cases e'
  exact⟨e,f0,f1,f2,d⟩
theorem Inv.unpinned {pj pl:PnT}{σ:St}{H:Hp}{s:Zl}(I:Inv X (pj++pl) σ H s):Inv X pj σ H s:=I.pins_of λ p hp=>I.pin p (Zn _ (Zat _ hp))
end
abbrev R2:=V->V->Hp->VK->Prop
def OpR (X:Cx)(f:Ze->Ze->Sem Ze)(r:R2):Prop :=
 ∀(pj:PnT)(s:Zl)(σ:St)(H:Hp)(x y:V)(v u:Ze)(Q:VK),Inv X pj σ H s->RelV x v->RelV y u->r x y H Q ->
  Zx (Z8 X.prog X.w) X.A (f v u) (EP X pj σ Q) X.xe s
def UnR (X:Cx)(f:Ze->Sem Ze)(r:V->Hp->VK->Prop):Prop :=
 ∀(pj:PnT)(s:Zl)(σ:St)(H:Hp)(x:V)(v:Ze)(Q:VK),Inv X pj σ H s->RelV x v->r x H Q ->
  Zx (Z8 X.prog X.w) X.A (f v) (EP X pj σ Q) X.xe s
def Xg (X:Cx)(f:Ze)(r:List V->Hp->VK->Prop):Prop :=
 ∀(pj:PnT)(s:Zl)(σ:St)(H:Hp)(xs:List V)(us:List Ze)(Q:VK),Inv X pj σ H s->Vals xs us->r xs H Q ->
  Zx (Z8 X.prog X.w) X.A (call f us) (EP X pj σ Q) X.xe s
def TruR (X:Cx)(r:V->Hp->(Bool->Hp->Prop)->Prop):Prop :=
 ∀(pj:PnT)(s:Zl)(σ:St)(H:Hp)(x:V)(v:Ze)(Q:Bool->Hp->Prop),Inv X pj σ H s->RelV x v->r x H Q ->
  Zx (Z8 X.prog X.w) X.A (truthy v) (TP X pj σ Q) X.xe s
def rI (C:Int->Int->Prop)(g:Int->Int->V):R2:=λ x y H Q=>∃i j,x=.int i/\y=.int j/\C i j/\Q (g i j) H
def rI0 (g:Int->Int->V):R2:=λ x y H Q=>∃i j,x=.int i/\y=.int j/\Q (g i j) H
def rU (g:Int->V):V->Hp->VK->Prop:=λ x H Q=>∃i,x=.int i/\Q (g i) H
section
variable {X:Cx}{a b c:Expr}{ta tb tc:TE}{pos:Pos}
theorem opI {f:Ze->Ze->Sem Ze}{C:Int->Int->Prop}{g:Int->Int->Int}
  (rule:∀(i j:Int)(t u:Tok)(s:Zl)(Q:QvT)(E:QvT),C i j->Q (.int (g i j) s.toks) { s with toks:=s.toks+1 }->Zx (Z8 X.prog X.w) X.A (f (.int i t) (.int j u)) Q E s) :
  OpR X f (rI C λ i j=>.int (g i j)):=by
 intro pj s σ H x y v u Q I rx ry h
 obtain⟨i,j,rfl,rfl,hc,q⟩:=h
 obtain⟨t,rfl⟩:=rx
 obtain⟨t',rfl⟩:=ry
 exact rule i j t t' s _ _ hc ⟨.int (g i j),H,I.tok _,⟨_,rfl⟩,q⟩
theorem opI0 {f:Ze->Ze->Sem Ze}{g:Int->Int->Int}
  (rule:∀(i j:Int)(t u:Tok)(s:Zl)(Q:QvT)(E:QvT),Q (.int (g i j) s.toks) { s with toks:=s.toks+1 }->Zx (Z8 X.prog X.w) X.A (f (.int i t) (.int j u)) Q E s) :
  OpR X f (rI0 λ i j=>.int (g i j)):=by
 intro pj s σ H x y v u Q I rx ry h
 obtain⟨i,j,rfl,rfl,q⟩:=h
 obtain⟨t,rfl⟩:=rx
 obtain⟨t',rfl⟩:=ry
 exact rule i j t t' s _ _ ⟨.int (g i j),H,I.tok _,⟨_,rfl⟩,q⟩
theorem opB0 {f:Ze->Ze->Sem Ze}{g:Int->Int->Bool}
  (rule:∀(i j:Int)(t u:Tok)(s:Zl)(Q:QvT)(E:QvT),Q (.bool (g i j)) s->Zx (Z8 X.prog X.w) X.A (f (.int i t) (.int j u)) Q E s) :
  OpR X f (rI0 λ i j=>.bl (g i j)):=by
 intro pj s σ H x y v u Q I rx ry h
 obtain⟨i,j,rfl,rfl,q⟩:=h
 obtain⟨t,rfl⟩:=rx
 obtain⟨t',rfl⟩:=ry
 exact rule i j t t' s _ _ ⟨.bl (g i j),H,I,rfl,q⟩
def CPow (i j:Int):Prop:=0<=j/\j<=1000000/\i.natAbs<2^64
theorem J1f:OpR X (ZaQ .Add) (rI0 λ i j=>.int (i+j)):=opI0 λ _ _ _ _ _ _ _ q=>add_int q
theorem J1k:OpR X (ZaQ .Sub) (rI0 λ i j=>.int (i-j)):=opI0 λ _ _ _ _ _ _ _ q=>sub_int q
theorem J1h:OpR X (ZaQ .Mod) (rI (λ _ j=>0<j) λ i j=>.int (i%j)):=opI λ i j _ _ _ _ _ hc q=>by
 have h1:(0:Int)<j:=hc
 exact mod_int' (by omega) (by rw[Int.fmod_eq_emod_of_nonneg i (by omega)];exact q)
theorem J1i:OpR X (ZaQ .Pow) (rI CPow λ i j=>.int (i^j.toNat)):=opI λ _ _ _ _ _ _ _ hc q=>pow_int_small hc.1 hc.2.1 hc.2.2 q
theorem unI {f:Ze->Sem Ze}{g:Int->Int}
  (rule:∀(i:Int)(t:Tok)(s:Zl)(Q:QvT)(E:QvT),Q (.int (g i) s.toks) { s with toks:=s.toks+1 }->Zx (Z8 X.prog X.w) X.A (f (.int i t)) Q E s) :
  UnR X f (rU λ i=>.int (g i)):=by
 intro pj s σ H x v Q I rx h
 obtain⟨i,rfl,q⟩:=h
 obtain⟨t,rfl⟩:=rx
 exact rule i t s _ _ ⟨.int (g i),H,I.tok _,⟨_,rfl⟩,q⟩
theorem J2f:UnR X (unaryOp .USub) (rU λ i=>.int (-i)):=unI λ _ _ _ _ _ q=>neg_int q
end
def scal:V->V->Bool
 | .non,.non=>Zg|.non,.int _=>Zg|.int _,.non=>Zg|.non,.bl _=>Zg|.bl _,.non=>Zg|.non,.str _=>Zg|.str _,.non=>Zg
 | .int _,.int _=>Zg|.bl _,.bl _=>Zg|.str _,.str _=>Zg|.byt _,.byt _=>Zg
 | .int _,.str _=>Zg|.str _,.int _=>Zg|.bl _,.str _=>Zg|.str _,.bl _=>Zg
 | _,_=>Zj
def rEq:R2:=λ x y H Q=>scal x y=Zg/\Q (.bl (decide (x=y))) H
def rNe:R2:=λ x y H Q=>scal x y=Zg/\Q (.bl (!decide (x=y))) H
theorem Jrd {i j:Int}:decide (V.int i=V.int j)=(i==j):=by
 rw[Zcn]
 simp
theorem Jv6 {i j:Bool}:decide (V.bl i=V.bl j)=(i==j):=by
 rw[Zcn]
 simp
theorem Jre {i j:Str}:decide (V.str i=V.str j)=(i==j):=by
 rw[Zcn]
 simp
theorem Jrc {i j:Array UInt8}:decide (V.byt i=V.byt j)=(i.toList==j.toList):=by
 rw[Zcn]
 cases i
 cases j
 simp
section
variable {X:Cx}{a b c:Expr}{ta tb tc:TE}{pos:Pos}
theorem J9 {pj:PnT}{σ:St}{H:Hp}{s:Zl}{Q:VK}{k k':Bool}(I:Inv X pj σ H s)(q:Q (.bl k) H)(e:k=k'):EP X pj σ Q (.bool k') s:=by
 subst e
 exact⟨.bl k,H,I,rfl,q⟩
theorem J3s:OpR X (Zav .Eq) rEq:=by
 intro pj s σ H x y v u Q I rx ry h
 obtain⟨hs,q⟩:=h
 cases x with
 | non =>
  cases rx
  cases y with
  | non=>cases ry;exact PySem.EqNone.eq_none_none (J9 I q (by simp))
  | bl j=>cases ry;exact PySem.EqNone.eq_none_bool (J9 I q (by simp))
  | int j=>obtain⟨t',rfl⟩:=ry;exact PySem.EqNone.eq_none_int (J9 I q (by simp))
  | str j=>obtain⟨t',rfl⟩:=ry;exact PySem.EqNone.eq_none_str (J9 I q (by simp))
  | _=>exact absurd (show Zj=Zg from hs) Zs
 | bl i =>
  cases rx
  cases y with
  | non=>cases ry;exact PySem.EqNone.eq_bool_none (J9 I q (by simp))
  | bl j=>cases ry;exact eq_bool (J9 I q Jv6)
  | str j=>obtain⟨t',rfl⟩:=ry;exact PySem.EqMixed.eq_bool_str (J9 I q (by simp))
  | _=>exact absurd (show Zj=Zg from hs) Zs
 | int i =>
  obtain⟨t,rfl⟩:=rx
  cases y with
  | non=>cases ry;exact PySem.EqNone.eq_int_none (J9 I q (by simp))
  | int j=>obtain⟨t',rfl⟩:=ry;exact eq_int (J9 I q Jrd)
  | str j=>obtain⟨t',rfl⟩:=ry;exact PySem.EqMixed.eq_int_str (J9 I q (by simp))
  | _=>exact absurd (show Zj=Zg from hs) Zs
 | str i =>
  obtain⟨t,rfl⟩:=rx
  cases y with
  | non=>cases ry;exact PySem.EqNone.eq_str_none (J9 I q (by simp))
  | bl j=>cases ry;exact PySem.EqMixed.eq_str_bool (J9 I q (by simp))
  | int j=>obtain⟨t',rfl⟩:=ry;exact PySem.EqMixed.eq_str_int (J9 I q (by simp))
  | str j=>obtain⟨t',rfl⟩:=ry;exact eq_str (J9 I q Jre)
  | _=>exact absurd (show Zj=Zg from hs) Zs
 | byt i =>
  obtain⟨t,rfl⟩:=rx
  cases y with
  | byt j=>obtain⟨t',rfl⟩:=ry;exact W.eq_bytes (J9 I q Jrc)
  | _=>exact absurd (show Zj=Zg from hs) Zs
 | _=>cases y<;>exact absurd (show Zj=Zg from hs) Zs
theorem J3x:OpR X (Zav .NotEq) rNe:=by
 intro pj s σ H x y v u Q I rx ry h
 obtain⟨hs,q⟩:=h
 cases x with
 | non =>
  cases rx
  cases y with
  | non=>cases ry;exact PySem.EqNone.ne_none_none (J9 I q (by simp))
  | bl j=>cases ry;exact PySem.EqNone.ne_none_bool (J9 I q (by simp))
  | int j=>obtain⟨t',rfl⟩:=ry;exact PySem.EqNone.ne_none_int (J9 I q (by simp))
  | str j=>obtain⟨t',rfl⟩:=ry;exact PySem.EqNone.ne_none_str (J9 I q (by simp))
  | _=>exact absurd (show Zj=Zg from hs) Zs
 | bl i =>
  cases rx
  cases y with
  | non=>cases ry;exact PySem.EqNone.ne_bool_none (J9 I q (by simp))
  | bl j=>cases ry;exact ne_bool (J9 I q (congrArg not Jv6))
  | str j=>obtain⟨t',rfl⟩:=ry;exact PySem.EqMixed.ne_bool_str (J9 I q (by simp))
  | _=>exact absurd (show Zj=Zg from hs) Zs
 | int i =>
  obtain⟨t,rfl⟩:=rx
  cases y with
  | non=>cases ry;exact PySem.EqNone.ne_int_none (J9 I q (by simp))
  | int j=>obtain⟨t',rfl⟩:=ry;exact ne_int (J9 I q (congrArg not Jrd))
  | str j=>obtain⟨t',rfl⟩:=ry;exact PySem.EqMixed.ne_int_str (J9 I q (by simp))
  | _=>exact absurd (show Zj=Zg from hs) Zs
 | str i =>
  obtain⟨t,rfl⟩:=rx
  cases y with
  | non=>cases ry;exact PySem.EqNone.ne_str_none (J9 I q (by simp))
  | bl j=>cases ry;exact PySem.EqMixed.ne_str_bool (J9 I q (by simp))
  | int j=>obtain⟨t',rfl⟩:=ry;exact PySem.EqMixed.ne_str_int (J9 I q (by simp))
  | str j=>obtain⟨t',rfl⟩:=ry;exact ne_str (J9 I q (congrArg not Jre))
  | _=>exact absurd (show Zj=Zg from hs) Zs
 | byt i =>
  obtain⟨t,rfl⟩:=rx
  cases y with
  | byt j=>obtain⟨t',rfl⟩:=ry;exact W.ne_bytes (J9 I q (congrArg not Jrc))
  | _=>exact absurd (show Zj=Zg from hs) Zs
 | _=>cases y<;>exact absurd (show Zj=Zg from hs) Zs
theorem J3w:OpR X (Zav .Lt) (rI0 λ i j=>.bl (decide (i<j))):=opB0 λ _ _ _ _ _ _ _ q=>lt_int q
theorem J3v:OpR X (Zav .LtE) (rI0 λ i j=>.bl (decide (i<=j))):=opB0 λ _ _ _ _ _ _ _ q=>le_int q
theorem J3u:OpR X (Zav .Gt) (rI0 λ i j=>.bl (decide (j<i))):=opB0 λ _ _ _ _ _ _ _ q=>gt_int q
theorem J3t:OpR X (Zav .GtE) (rI0 λ i j=>.bl (decide (j<=i))):=opB0 λ _ _ _ _ _ _ _ q=>ge_int q
theorem Jsl:OpR X (Zav .Lt) (λ x y H Q=>∃i j,x=.str i/\y=.str j/\Q (.bl (decide (i.cps.toList<j.cps.toList))) H):=by
 intro pj s σ H x y v u Q I rx ry h
 obtain⟨i,j,rfl,rfl,q⟩:=h
 obtain⟨t,rfl⟩:=rx
 obtain⟨t',rfl⟩:=ry
 exact lt_str (J9 I q rfl)
def TruV (K:W.Frag)(x:V)(H:Hp)(k:Bool):Prop :=
 match x with
 | .non=>k=Zj
 | .bl b=>k=b
 | .int i=>k=(i != 0)
 | .str y=>y.length<=sizeLine/\k=((y.length:Int) != 0)
 | .byt y=>y.size<=sizeLine/\k=((y.size:Int) != 0)
 | .ref p=>(∃xs,SqL K H p xs/\k=!xs.isEmpty)∨(∃xs,SqT K H p xs/\k=!xs.isEmpty)∨∃kvs,H p=Za (.dK kvs)/\k=!kvs.isEmpty
 | _=>False
theorem Jp2 {κ:Type}{kvs:List (κ×V)}{vs:List (κ×Ze)}(r:KV kvs vs):(!vs.isEmpty)=!kvs.isEmpty:=by
 cases r<;>rfl
theorem Ji7 {xs:List V}{its:List Ze}(r:Vals xs its):(!its.toArray.isEmpty)=!xs.isEmpty:=by
 cases r<;>simp
theorem Xq:(sizeLine:Nat)<2^63:=by rw[ZaY];decide
theorem Xb:TruR X (λ x H Q=>∃k,TruV X.K x H k/\Q k H):=by
 intro pj s σ H x v Q I rx h
 obtain⟨k,e,q⟩:=h
 have hl:=Xq
 have hs:sizeLine=16777216:=ZaY
 cases x with
 | non =>
  cases rx
  have e':k=Zj:=e
  subst e'
  exact truthy_none ⟨H,I,q⟩
 | bl b =>
  cases rx
  have e':k=b:=e
  subst e'
  exact ZaT ⟨H,I,q⟩
 | int i =>
  obtain⟨t,rfl⟩:=rx
  have e':k=(i != 0):=e
  subst e'
  exact PySem.P.truthy_int ⟨H,I,q⟩
 | str y =>
  obtain⟨t,rfl⟩:=rx
  obtain⟨hy,e'⟩:y.length<=sizeLine/\k=((y.length:Int) != 0):=e
  subst e'
  exact PySem.P.truthy_str (by omega) ⟨H,I.tok _,q⟩
 | byt y =>
  obtain⟨t,rfl⟩:=rx
  obtain⟨hy,e'⟩:y.size<=sizeLine/\k=((y.size:Int) != 0):=e
  subst e'
  exact W.truthy_bytes (by omega) ⟨H,I.tok _,q⟩
 | ref p =>
  cases rx
  have e':(∃xs,SqL X.K H p xs/\k=!xs.isEmpty)∨(∃xs,SqT X.K H p xs/\k=!xs.isEmpty)∨∃kvs,H p=Za (.dK kvs)/\k=!kvs.isEmpty:=e
  rcases e' with⟨xs,hx,e'⟩|⟨xs,hx,e'⟩|⟨kvs,hx,e'⟩
  ·subst e'
   obtain⟨its,r,pl,hz⟩:=I.list hx
   have hlen:=r.length
   exact wpAny_truthy_list pl.isList (by simp only[Zu];omega) ⟨H,I.tok _,by rw[Ji7 r];exact q⟩
  ·subst e'
   obtain⟨its,r,pl,hz⟩:=I.tuple hx
   have hlen:=r.length
   exact truthy_tuple pl (by simp only[Zu];omega) ⟨H,I.tok _,by rw[Ji7 r];exact q⟩
  ·subst e'
   obtain⟨hz,hS,vs,r,m⟩:kvs.length<=sizeLine/\(p==Zcr)=Zj/\∃vs,KV kvs vs/\s.heap.DictOf (Vp X.prog X.w) p vs:=I.hok p _ hx
   have hlen:kvs.length=vs.length:=Zeh r
   exact wpAny_truthy_dict hS m (by omega) ⟨H,I.tok _,by rw[Jp2 r];exact q⟩
 | _=>exact Zf e
theorem Jqc:OpR X (ZaQ .Add) (λ x y H Q=>∃i j,x=.str i/\y=.str j/\i.length+j.length<=sizeLine/\Q (.str (i++j)) H):=by
 intro pj s σ H x y v u Q I rx ry h
 obtain⟨i,j,rfl,rfl,hz,q⟩:=h
 obtain⟨t,rfl⟩:=rx
 obtain⟨t',rfl⟩:=ry
 exact add_str (λ t' tk=>⟨.str (i++j),H,I.tok _,⟨_,rfl⟩,q⟩) hz
theorem Q0 {x:V}{us:List Ze}(r:Vals [x] us):∃u,us=[u]/\RelV x u:=by
 cases r with
 | cons r1 r2=>cases r2;exact⟨_,rfl,r1⟩
theorem J2h {x y:V}{us:List Ze}(r:Vals [x,y] us):∃u w',us=[u,w']/\RelV x u/\RelV y w':=by
 cases r with
 | cons r1 r2 =>
  cases r2 with
  | cons r3 r4=>cases r4;exact⟨_,_,rfl,r1,r3⟩
theorem Jq8 (hc:X.calm=Zg):Xg X (.builtin "max") (λ xs H Q=>∃i j,xs=[.int i,.int j]/\Q (.int (if j>i then j else i)) H):=by
 intro pj s σ H xs us Q I r h
 obtain⟨i,j,rfl,q⟩:=h
 obtain⟨u,w',rfl,⟨t,rfl⟩,⟨t',rfl⟩⟩:=J2h r
 refine max_two_ints (I.ok.hd hc) λ h' tk k=>⟨_,H,I.kept k,?_,q⟩
 by_cases hj:j>i
 ·rw[if_pos hj,if_pos hj];exact⟨_,rfl⟩
 ·rw[if_neg hj,if_neg hj];exact⟨_,rfl⟩
theorem Jq9 (hc:X.calm=Zg):Xg X (.builtin "min") (λ xs H Q=>∃i j,xs=[.int i,.int j]/\Q (.int (if j<i then j else i)) H):=by
 intro pj s σ H xs us Q I r h
 obtain⟨i,j,rfl,q⟩:=h
 obtain⟨u,w',rfl,⟨t,rfl⟩,⟨t',rfl⟩⟩:=J2h r
 refine min_two_ints (I.ok.hd hc) λ h' tk k=>⟨_,H,I.kept k,?_,q⟩
 by_cases hj:j<i
 ·rw[if_pos hj,if_pos hj];exact⟨_,rfl⟩
 ·rw[if_neg hj,if_neg hj];exact⟨_,rfl⟩
theorem Jla:Xg X (.type "int") (λ xs H Q=>(∃i,xs=[.int i]/\Q (.int i) H)∨∃k,xs=[.bl k]/\Q (.int (if k then 1 else 0)) H):=by
 intro pj s σ H xs us Q I r h
 rcases h with⟨i,rfl,q⟩|⟨k,rfl,q⟩
 ·obtain⟨u,rfl,t,rfl⟩:=Q0 r
  exact call_int_int ⟨.int i,H,I,⟨_,rfl⟩,q⟩
 ·obtain⟨u,rfl,r1⟩:=Q0 r
  cases r1
  exact call_int_bool ⟨.int (if k then 1 else 0),H,I.tok _,⟨_,rfl⟩,q⟩
def LenV (K:W.Frag)(x:V)(H:Hp)(n:Nat):Prop :=
 match x with
 | .str y=>y.length<=sizeLine/\n=y.length
 | .byt y=>y.size<=sizeLine/\n=y.size
 | .ref p=>(∃xs,SqL K H p xs/\n=xs.length)∨∃xs,SqT K H p xs/\n=xs.length
 | _=>False
theorem Jgu:Xg X (.builtin "len") (λ xs H Q=>∃x n,xs=[x]/\LenV X.K x H n/\Q (.int n) H):=by
 intro pj s σ H xs us Q I r h
 obtain⟨x,n,rfl,e,q⟩:=h
 obtain⟨u,rfl,rx⟩:=Q0 r
 have hl:=Xq
 have hs:sizeLine=16777216:=ZaY
 cases x with
 | str y =>
  obtain⟨t,rfl⟩:=rx
  obtain⟨hy,e'⟩:y.length<=sizeLine/\n=y.length:=e
  subst e'
  exact len_str (by omega) ⟨.int _,H,I.tok _,⟨_,rfl⟩,q⟩
 | byt y =>
  obtain⟨t,rfl⟩:=rx
  obtain⟨hy,e'⟩:y.size<=sizeLine/\n=y.size:=e
  subst e'
  exact W.len_bytes (by omega) ⟨.int _,H,I.tok _,⟨_,rfl⟩,q⟩
 | ref p =>
  cases rx
  have e':(∃xs,SqL X.K H p xs/\n=xs.length)∨∃xs,SqT X.K H p xs/\n=xs.length:=e
  rcases e' with⟨xs,hx,e'⟩|⟨xs,hx,e'⟩
  ·subst e'
   obtain⟨its,r',pl,hz⟩:=I.list hx
   have hlen:=r'.length
   exact Calls.call_len_list pl.isList (by simp only[Zu];omega) ⟨.int xs.length,H,I.tok _,⟨_,by simp only[Zu];rw[hlen]⟩,q⟩
  ·subst e'
   obtain⟨its,r',pl,hz⟩:=I.tuple hx
   have hlen:=r'.length
   exact len_tuple pl (by simp only[Zu];omega) ⟨.int xs.length,H,I.tok _,⟨_,by simp only[Zu];rw[hlen]⟩,q⟩
 | _=>exact Zf e
end
structure ObjM (h:Zas)(x dx C:Zm)(mA:Str->Option Ze):Prop where
 obj:h.get? x=Za (W.instObj C dx)
 ns:h.Ns1 dx mA
 ne:dx≠x
theorem Jse {h:Zas}{dx:Zm}{mA:Str->Option Ze}(n:h.Ns1 dx mA):∃od,h.get? dx=Za od/\∀name,W.lookIn name od=Za (mA name):=by
 obtain⟨o,es,ep,ho,hd,hk,_,hm⟩:=n
 refine⟨o,ho,λ name=>?_⟩
 have e:=hm name
 unfold nsFind findBy at e
 rw[<- Array.find?_toList] at e
 unfold W.lookIn
 rw[hd]
 dsimp only
 split
 ·rename_i y q
  rw[q] at e
  exact congrArg Za e
 ·rename_i q
  rw[q] at e
  have a:es.toList.any (·.refKey)=Zj:=by
   rw[List.any_eq_false]
   intro y hy
   obtain⟨z,t,hkey⟩:=hk y (Array.mem_toList_iff.mp hy)
   simp[DictEntry.refKey,hkey]
  have a':¬es.toList.any (·.refKey)=Zg:=by rw[a];exact Zs
  rw[if_neg a']
  exact congrArg Za e
theorem ObjM.look {h:Zas}{x dx C:Zm}{mA:Str->Option Ze}(I:ObjM h x dx C mA):∃od,W.InstAt h x (W.instObj C dx) C (Za od)/\∀name,W.lookIn name od=Za (mA name) :=
 let ⟨od,ho,hl⟩:=Jse I.ns
 ⟨od,⟨I.obj,rfl,rfl,ho⟩,hl⟩
section
variable {prog:ZA}{w:ZW}{A:ZO}{E:QvT}{s:Zl}{K:W.Frag}{x dx C f:Zm}{mA:Str->Option Ze}{name:Str}{v:Ze}
theorem Jxy {expr:Bool}{Q:QvT}(X:K.In s.heap)(I:ObjM s.heap x dx C mA)(hg:W.plainGet K C name=Zg)(hh:W.hasDictIn K C=Zg)
  (ha:W.findIn K (.ref C) name=Za Zc)(hv:mA name=Za v)(hv':W.handedIn v=Zg)(h:Q v { s with toks:=s.toks+1 }) :
  Zx (Z8 prog w) A (getAttr (.ref x) name expr) Q E s:=by
 obtain⟨od,J,hl⟩:=I.look
 exact W.get_value X J (W.plainGet_of hg).1 (W.findObj_own hh ha rfl (by rw[hl,hv])) hv' h
theorem Jt1 {pl:Sem Bool}{Q:Ze×List Ze->Zl->Prop}(X:K.In s.heap)(I:ObjM s.heap x dx C mA)(hg:W.plainGet K C name=Zg)
  (hf:W.findIn K (.ref C) name=Za (Za (.ref f)))(ht:W.isFn K (.ref f)=Zg)(hv:mA name=Zc)(h:Q (.ref f,[.ref x]) s) :
  Zx (Z8 prog w) A (Zd2 (.ref x) name pl) Q E s:=by
 obtain⟨od,J,hl⟩:=I.look
 exact W.method_fn X J (W.plainGet_of hg).1 (W.plainGet_of hg).2 hf (beq_iff_eq.mp ht) (by show(W.lookIn name od).map (·.isSome)=Za Zj;rw[hl,hv];rfl) h
theorem Jy4 {ns:List Str}{Q:Unit->Zl->Prop}(X:K.In s.heap)(I:ObjM s.heap x dx C mA)
  (hs:W.findIn K (.ref C) "__setattr__"=Za (Za (.builtin "object.__setattr__")))(hp:W.plainOver K C=Zg)(ht:W.takerIn K C name=Za Zc)(hh:W.hasDictIn K C=Zg)
  (hw:Zes mA ns)(hsz:ns.length<=sizeLine)
  (h:∀h',ObjM h' x dx C (λ y=>if y=name then Za v else mA y)->Zc3 dx s.heap h'->Q () { s with heap:=h',toks:=s.toks+2 }) :
  Zx (Z8 prog w) A (setAttr (.ref x) name v) Q E s:=by
 obtain⟨od,J,hl⟩:=I.look
 refine W.set_plain X J hs (W.osa_open (s:={ s with toks:=s.toks+1 }) (r:=Zc) X J hp ht λ b=>?_)
 obtain⟨cd,hc,hd'⟩:=W.any_some hh
 have hx:s.heap.get? x=Za ⟨.ref C,Za dx,.plain,#[]⟩:=I.obj
 refine Zd (Z0 (Zd (Zd (wpAny_loadPart hx (Zd (W.Looks.here (s:={ s with toks:=s.toks+1 }) (W.looks_clsIn X hc) ?_))))))
 rw[hd']
 refine Z0 (a:=Za dx) (Zd (Z0 (Zd ?_)))
 refine wpAny_nsSet1 (s:={ s with toks:=s.toks+1 }) I.ns λ h' hn2 hs2=>?_
 obtain⟨oD,esD,epD,hoD,hdD,hcD⟩:=hn2.count (PySem.Within.cons name v hw)
 refine Zd (wpAny_lookBehind hoD (by rw[hdD];exact pastItsLine_dict (ZY hcD (by rw[ZB];omega))) ?_)
 exact Z0 (h _ ⟨(hs2.2 _ (ZQ I.ne)).trans I.obj,hn2,I.ne⟩ hs2)
theorem Juo {R:ZdG->Zl->Prop}{vs:List Ze}{kw:List (Str×Ze)}(X:K.In s.heap)(hm:W.makesIn K C=Zg)
  (hi:W.findIn K (.ref C) "__init__"=Za (Za (.ref f)))(hf:W.typeIn K (.ref f)=Za (.type "function"))
  (h:Zc4 (Z8 prog w) (A.under (.builtin "type.__call__" ⟨.ref C::vs,kw⟩)) (.call (.ref f) ⟨.ref (s.heap.objs.size+1)::vs,kw⟩) (W.InitBack (s.heap.objs.size+1) R)
   { s with heap:=(s.heap.push W.emptyDict).push (W.instObj C s.heap.objs.size) }) :
  Zc4 (Z8 prog w) A (.call (.ref C) ⟨vs,kw⟩) R s:=by
 obtain⟨hh,g,d,t,os⟩:=s
 exact W.make_core (W.makes_of X hm) (W.looks_findIn X hi) (λ self=>W.bind_fn X self hf) (.inl rfl) h
end
def putF (f:Str)(v:V):List (Str×V)->List (Str×V)
 | []=>[(f,v)]
 | (g,x)::r=>if g=f then(g,v)::r else(g,x)::putF f v r
theorem Jh1 (f g:Str)(v:V):∀fs:List (Str×V),(putF f v fs).lookup g=if g=f then Za v else fs.lookup g
 | []=>by
  show Zb2 g [(f,v)]=_
  by_cases h:g=f
  ·have hb:(g==f)=Zg:=beq_iff_eq.mpr h
   simp only[Zb2,hb,if_pos h]
  ·have hb:(g==f)=Zj:=beq_eq_false_iff_ne.mpr h
   simp only[Zb2,hb,if_neg h]
 | (k,x)::r=>by
  have ih:=Jh1 f g v r
  rw[show putF f v ((k,x)::r)=(if k=f then(k,v)::r else(k,x)::putF f v r) from rfl]
  by_cases hk:k=f
  ·rw[if_pos hk]
   by_cases h:g=k
   ·have hb:(g==k)=Zg:=beq_iff_eq.mpr h
    simp only[Zb2,hb,if_pos (h.trans hk)]
   ·have hb:(g==k)=Zj:=beq_eq_false_iff_ne.mpr h
    simp only[Zb2,hb,if_neg (λ e:g=f=>h (e.trans hk.symm))]
  ·rw[if_neg hk]
   by_cases h:g=k
   ·have hb:(g==k)=Zg:=beq_iff_eq.mpr h
    simp only[Zb2,hb,if_neg (λ e:g=f=>hk (h.symm.trans e))]
   ·have hb:(g==k)=Zj:=beq_eq_false_iff_ne.mpr h
    simp only[Zb2,hb]
    exact ih
theorem Jhz (f:Str)(v:V):∀fs:List (Str×V),f∈(putF f v fs).map (·.1)/\∀g,g∈fs.map (·.1)->g∈(putF f v fs).map (·.1)
 | []=>⟨by simp[putF],λ g h=>by simp at h⟩
 | (k,x)::r=>by
  obtain⟨i1,i2⟩:=Jhz f v r
  rw[show putF f v ((k,x)::r)=(if k=f then(k,v)::r else(k,x)::putF f v r) from rfl]
  by_cases hk:k=f
  ·rw[if_pos hk]
   subst hk
   exact⟨by simp,λ g h=>by simpa using h⟩
  ·rw[if_neg hk]
   refine⟨?_,λ g h=>?_⟩
   ·rw[Z4]
    exact Zp _ i1
   ·rw[Z4] at h ⊢
    rcases Z6.mp h with e|e
    ·exact Z6.mpr (.inl e)
    ·exact Zp _ (i2 g e)
theorem Jh0 (f:Str)(v:V):∀fs:List (Str×V),(putF f v fs).length<=fs.length+1
 | []=>by simp[putF]
 | (k,x)::r=>by
  have ih:=Jh0 f v r
  rw[show putF f v ((k,x)::r)=(if k=f then(k,v)::r else(k,x)::putF f v r) from rfl]
  by_cases hk:k=f
  ·rw[if_pos hk,ZB,ZB];omega
  ·rw[if_neg hk,ZB,ZB];omega
theorem RelO.some_of {v:V}{o:Option Ze}(r:RelO (Za v) o):∃u,o=Za u/\RelV v u:=by
 cases o with
 | none=>exact Zf r
 | some u=>exact⟨u,rfl,r⟩
theorem RelO.none_of {o:Option Ze}(r:RelO Zc o):o=Zc:=by
 cases o with
 | none=>rfl
 | some u=>exact Zf r
theorem Jrq {v:V}{u:Ze}(r:RelV v u):W.handedIn u=Zg:=by
 cases v with
 | non=>cases (show u=ZV from r);rfl
 | bl b=>cases (show u=ZcH b from r);rfl
 | int i=>obtain⟨t,e⟩:=(show ∃t,u=ZbQ i t from r);cases e;rfl
 | str x=>obtain⟨t,e⟩:=(show ∃t,u=Zec x t from r);cases e;rfl
 | byt b=>obtain⟨t,e⟩:=(show ∃t,u=Value.bytes b t from r);cases e;rfl
 | flt b=>obtain⟨t,e⟩:=(show ∃t,u=Value.float b t from r);cases e;rfl
 | ref a=>cases (show u=Zdf a from r);rfl
 | ty n=>cases (show u=Zem n from r);rfl
section
variable {P:ZA}{w:ZW}{H H':Hp}{h h':Zas}{a C dx:Zm}{fs fs':List (Str×V)}
theorem Jj5 (hok:HOk P w H h)(e:H a=Za (.ins C dx fs)):∃mA,ObjM h a dx C mA/\(∀f,RelO (fs.lookup f) (mA f))/\Zes mA (fs.map (·.1))/\fs.length<=1000/\H dx=Za (.own a):=by
 obtain⟨d,z,ne,ob,mA,n,r,q⟩:=(show JM P w H h a (.ins C dx fs) from hok a _ e)
 exact⟨mA,⟨ob,n,ne⟩,r,q,z,d⟩
end
structure Cls (K:W.Frag)(C:Zm):Prop where
 pg:W.plainGet K C Str.empty=Zg
 hd:W.hasDictIn K C=Zg
 po:W.plainOver K C=Zg
 sa:W.findIn K (.ref C) "__setattr__"=Za (Za (.builtin "object.__setattr__"))
theorem Cls.get {K:W.Frag}{C:Zm}(c:Cls K C)(f:Str):W.plainGet K C f=Zg:=c.pg
def Qt (K:W.Frag)(C:Zm)(f:Str):Prop:=W.findIn K (.ref C) f=Za Zc
theorem Qt.taker {K:W.Frag}{C:Zm}{f:Str}(n:Qt K C f):W.takerIn K C f=Za Zc:=by
 unfold W.takerIn
 rw[show W.findIn K (.ref C) f=Za Zc from n]
 rfl
structure Meth (K:W.Frag)(C:Zm)(m:Str)(f:Zm):Prop where
 at_:W.findIn K (.ref C) m=Za (Za (.ref f))
 fn:W.isFn K (.ref f)=Zg
 kp:W.keepIn K (.ref f)=Zg
section
variable {X:Cx}{pj:PnT}{σ:St}{H:Hp}{s:Zl}{a C dx:Zm}{fs:List (Str×V)}{f:Str}{v:V}{A:ZO}{E:QvT}
theorem Ji5 {b:Bool}{Q:QvT}(I:Inv X pj σ H s)(e:H a=Za (.ins C dx fs))(c:Cls X.K C)(n:Qt X.K C f)(l:fs.lookup f=Za v)
  (h:∀u s',Inv X pj σ H s'->RelV v u->Q u s'):Zx (Z8 X.prog X.w) A (getAttr (.ref a) f b) Q E s:=by
 obtain⟨mA,O,r,_,_,_⟩:=Jj5 I.hok e
 obtain⟨u,hu,ru⟩:=RelO.some_of (v:=v) (o:=mA f) (by rw[<- l];exact r f)
 exact Jxy I.kIn O (c.get f) c.hd n hu (Jrq ru) (h u _ (I.tok _) ru)
theorem Ji6 {m:Str}{g:Zm}{pl:Sem Bool}{Q:Ze×List Ze->Zl->Prop}(I:Inv X pj σ H s)(e:H a=Za (.ins C dx fs))(c:Cls X.K C)(k:Meth X.K C m g)(l:fs.lookup m=Zc)
  (h:Q (.ref g,[.ref a]) s):Zx (Z8 X.prog X.w) A (Zd2 (.ref a) m pl) Q E s:=by
 obtain⟨mA,O,r,_,_,_⟩:=Jj5 I.hok e
 have hn:mA m=Zc:=RelO.none_of (by rw[<- l];exact r m)
 exact Jt1 I.kIn O (c.get m) k.at_ k.fn hn h
theorem Jjb {y:V}{u:Ze}{Q:Unit->Zl->Prop}(I:Inv X pj σ H s)(e:H a=Za (.ins C dx fs))(c:Cls X.K C)(n:Qt X.K C f)(hl:fs.length<1000)(ry:RelV y u)
  (h:∀s',Inv X pj σ (upd H a (.ins C dx (putF f y fs))) s'->Q () s'):Zx (Z8 X.prog X.w) A (setAttr (.ref a) f u) Q E s:=by
 obtain⟨mA,O,r,wi,_,ho⟩:=Jj5 I.hok e
 have hz:(fs.map (·.1)).length<=sizeLine:=by rw[Zi,ZaY];omega
 refine Jy4 I.kIn O c.sa c.po n.taker c.hd wi hz λ h' O' sb=>h _ ?_
 have hd:∃o,h'.get? dx=Za o:=let ⟨o,_,_,e',_⟩:=O'.ns;⟨o,e'⟩
 refine I.write (x:=a) (e:=dx) (by rw[e];exact Zaq) (.inr ho) (λ b q hb z=>(sb.2 b hb).trans z) hd ?_
 refine⟨by rw[Jr O.ne];exact ho,?_,O.ne,O'.obj,_,O'.ns,λ g=>?_,λ g hg=>?_⟩
 ·have:=Jh0 f y fs;omega
 ·show RelO ((putF f y fs).lookup g) (if g=f then Za u else mA g)
  rw[Jh1]
  by_cases q:g=f
  ·rw[if_pos q,if_pos q];exact ry
  ·rw[if_neg q,if_neg q];exact r g
 ·by_cases q:g=f
  ·rw[q];exact(Jhz f y fs).1
  ·refine(Jhz f y fs).2 g (wi g λ z=>hg ?_)
   show(if g=f then Za u else mA g)=Zc
   rw[if_neg q];exact z
theorem Inv.made (I:Inv X pj σ H s):Inv X pj σ (upd (upd H s.heap.objs.size (.own (s.heap.objs.size+1))) (s.heap.objs.size+1) (.ins C s.heap.objs.size []))
  { s with heap:=(s.heap.push W.emptyDict).push (W.instObj C s.heap.objs.size) }:=by
 have e1:(s.heap.push W.emptyDict).get? s.heap.objs.size=Za W.emptyDict:=Z2 s.heap rfl
 have e2:((s.heap.push W.emptyDict).push (W.instObj C s.heap.objs.size)).get? (s.heap.objs.size+1)=Za (W.instObj C s.heap.objs.size):=by
  have:=Z2 (s.heap.push W.emptyDict) (o:=W.instObj C s.heap.objs.size) rfl
  rwa [Zc5] at this
 have e3:(s.heap.push W.emptyDict).Ns s.heap.objs.size (λ _=>Zc):=⟨W.emptyDict,#[],_,e1,rfl,(λ e he=>absurd he (by simp)),λ _=>rfl⟩
 have I1:=I.laid (a:=s.heap.objs.size) (o:=.own (s.heap.objs.size+1)) (h':=s.heap.push W.emptyDict) (t':=s.toks) (λ b u q=>Zh _ q) (Zo _) ⟨_,e1⟩
 refine I1.laid (a:=s.heap.objs.size+1) (o:=.ins C s.heap.objs.size []) (t':=s.toks) (λ b u q=>Zh _ q) (Zc6 (Zc5 _ _)) ?_
 have ne:s.heap.objs.size≠s.heap.objs.size+1:=Z5 (Za2 _)
 refine⟨by rw[Jr ne,J7],ZX _,ne,e2,λ _=>Zc,(Heap.Ns1.of_empty e3).at λ o q=>Zh _ q,λ _=>Zaq,λ y hy=>absurd rfl hy⟩
theorem Jxg {prog:ZA}{w:ZW}{env:Env}{e:Expr}{f:Str}{pos:Pos}{s:Zl}{Q:QvT}(hb:ZcP e f env (Zbe e env)=Zbe e env)
  (h:Zx (Z8 prog w) A (Zbe e env) (λ o s₁=>Zx (Z8 prog w) A (getAttr o f Zg) Q E s₁) E s):Zx (Z8 prog w) A (Zbe (.Attribute e f pos) env) Q E s :=
 Attribute_any_ h (by rw[arm_eval_Attribute,hb])
end
section
variable {X:Cx}{o e value:Expr}{f:Str}{pos pos' tpos:Pos}{ta tv:TE}
end
section
variable {X:Cx}{pj:PnT}{σ:St}{H:Hp}{s:Zl}{A:ZO}{E:QvT}{Q:QvT}{c:Ze}{b:Bool}
end
structure Room (k:Nat)(A:ZO):Prop where
 hd:A.handled=Zc
 dp:A.depth+3*k+5<recursionLimit
 un:A.units+16*k+200<Zeu
theorem Room.mono {j k:Nat}{A:ZO}(r:Room k A)(h:j<=k):Room j A:=⟨r.hd,by have:=r.dp;omega,by have:=r.un;omega⟩
theorem Room.deeper {k:Nat}{A:ZO}(r:Room (k+1) A)(env:Env):Room k (A.deeper env) :=
 ⟨r.hd,by have:=r.dp;show A.depth+1+3*k+5<_;omega,by have:=r.un;show A.units+3+16*k+200<_;omega⟩
theorem Room.in1 {k:Nat}{A:ZO}(r:Room (k+1) A):Room k A.in1 :=
 ⟨r.hd,by have:=r.dp;show A.depth+3*k+5<_;omega,by have:=r.un;show A.units+1+16*k+200<_;omega⟩
theorem Jp8 {A:ZO}{C:Zm}{us:List Ze}{kw:List (Str×Ze)}:(A.under (.builtin "type.__call__" ⟨.ref C::us,kw⟩)).depth=A.depth+1:=by
 first|rfl|simp[Zev,Code.weight,Code.isCreation,Code.isGuard,Code.isCaller,Code.frames,Zew,guardIds]
theorem Jp9 {A:ZO}{C:Zm}{us:List Ze}{kw:List (Str×Ze)}:(A.under (.builtin "type.__call__" ⟨.ref C::us,kw⟩)).units=A.units+1:=by
 first|rfl|simp[Zev,Code.cUnits,Code.frames,Zew]
theorem Room.make {k:Nat}{A:ZO}(r:Room (k+1) A)(C:Zm)(us:List Ze)(kw:List (Str×Ze)):Room k (A.under (.builtin "type.__call__" ⟨.ref C::us,kw⟩)) :=
 ⟨r.hd,by have:=r.dp;rw[Jp8];omega,by have:=r.un;rw[Jp9];omega⟩
theorem Room.depth {k:Nat}{A:ZO}(r:Room k A):A.depth<recursionLimit:=by have:=r.dp;omega
theorem Room.units {k:Nat}{A:ZO}(r:Room k A):A.units+64<Zeu:=by have:=r.un;omega
section
variable {X:Cx}{e:Expr}{es:List Expr}{te:TE}{t:TA}{pos:Pos}
end
abbrev Sp:=List V->Hp->VK->XK->Prop
abbrev CXT:=List Env->Hp->Zl->XK->QvT
structure Env0 (P:ZA)(w:ZW)(K:W.Frag)(mg:Str->Option Ze)(base:Zas)(A:ZO)(outer:List Env)(s:Zl)(H:Hp):Prop where
 frames:A.frames=Za outer
 mod:Mod K mg base
 bs:∀b o,base.get? b=Za o->s.heap.get? b=Za o/\H b=Zc
 bsz:base.objs.size<=s.heap.objs.size
 funs:s.heap.FunFrames base outer
 frf:∀b∈frs outer,H b=Zc
 hok:HOk P w H s.heap
 bare:Zdc s.gens
def CE (outer:List Env)(P:ZA)(w:ZW)(H:Hp)(s:Zl)(Q:VK)(u:Ze)(s':Zl):Prop :=
 ∃v H',s'.os=s.os/\Zdc s'.gens/\Un (frs outer) [] H H' s.heap s'.heap/\HOk P w H' s'.heap/\RelV v u/\Q v H'
def CR (CX:CXT)(outer:List Env)(P:ZA)(w:ZW)(H:Hp)(s:Zl)(Q:VK)(E:XK)(r:ZdG)(s':Zl):Prop :=
 match r with
 | .ok (.ret u)=>CE outer P w H s Q u s'
 | .ok _=>False
 | .error e=>CX outer H s E e s'
structure FnOk (P:ZA)(w:ZW)(K:W.Frag)(mg:Str->Option Ze)(base:Zas)(CX:CXT)(k:Nat)(f:Zm)(fd:ZaD)(ps:List Str)(sp:Sp):Prop where
 len:∀vs H Q E,sp vs H Q E->vs.length=ps.length
 run:∀(A:ZO)(outer:List Env)(s:Zl)(H:Hp)(args:Args)(us:List Ze)(vs:List V)(Q:VK)(E:XK),Room k A->Env0 P w K mg base A outer s H->Zc7 s fd args (ps.zip us)->Vals vs us->sp vs H Q E ->
  Zc4 (Z8 P w) A (.call (.ref f) args) (CR CX outer P w H s Q E) s
theorem FnOk.imp {P:ZA}{w:ZW}{K:W.Frag}{mg:Str->Option Ze}{base:Zas}{CX:CXT}{k:Nat}{f:Zm}{fd:ZaD}{ps:List Str}{sp sp':Sp}(F:FnOk P w K mg base CX k f fd ps sp)
  (h:∀vs H Q E,sp' vs H Q E->sp vs H Q E):FnOk P w K mg base CX k f fd ps sp' :=
 ⟨λ vs H Q E q=>F.len vs H Q E (h _ _ _ _ q),λ A outer s H args us vs Q E hr he hb hv hs=>F.run A outer s H args us vs Q E hr he hb hv (h _ _ _ _ hs)⟩
theorem Env0.make {P:ZA}{w:ZW}{K:W.Frag}{mg:Str->Option Ze}{base:Zas}{A:ZO}{outer:List Env}{s:Zl}{H:Hp}(e:Env0 P w K mg base A outer s H)(C:Zm)(us:List Ze)(kw:List (Str×Ze)) :
  Env0 P w K mg base (A.under (.builtin "type.__call__" ⟨.ref C::us,kw⟩)) outer s H:=⟨by first|exact e.frames|(simpa [Zev,Code.envs,Zew,pushEnvs] using e.frames),e.mod,e.bs,e.bsz,e.funs,e.frf,e.hok,e.bare⟩
section
variable {X:Cx}{pj:PnT}{σ:St}{H:Hp}{s s':Zl}
theorem Inv.env0 (I:Inv X pj σ H s):Env0 X.prog X.w X.K X.mg X.base X.A X.stack s H :=
 ⟨I.ok.frames,I.ok.mod,I.bs,ZY I.ok.bsz I.sz,I.stack,I.stkFree,I.hok,I.bare⟩
theorem Inv.after {Q:VK}{u:Ze}(I:Inv X pj σ H s)(h:CE X.stack X.prog X.w H s Q u s'):EP X pj σ Q u s':=by
 obtain⟨v,H',os,bare,un,hok,r,q⟩:=h
 obtain⟨hh,g,d,t,os'⟩:=s'
 obtain rfl:os'=s.os:=os
 exact⟨v,H',I.call (h':=hh) (g':=g) (d':=d) (t':=t) (ch:=[]) un hok bare (λ b z=>absurd z (by simp)),r,q⟩
end
def Qo (K:W.Frag)(fd:ZaD)(ps:List Str)(ds:List Ze):Prop :=
 ∀(s:Zl)(us:List Ze),K.In s.heap->(us++ds).length=ps.length->Zc7 s fd ⟨us,[]⟩ (ps.zip (us++ds))
theorem Qo.all {K:W.Frag}{fd:ZaD}{ps:List Str}(h:∀us:List Ze,us.length=ps.length->ZdU fd ⟨us,[]⟩=pure (ps.zip us)):Qo K fd ps []:=λ s us _ hl=>by
 rw[Zaw] at hl ⊢
 exact .of_eq (h us hl)
section
variable {X:Cx}{CX:CXT}{k:Nat}{f C:Zm}{fd:ZaD}{ps:List Str}{sp:Sp}{dvs:List V}{ds:List Ze}{E:XK}{x m:Str}{p pos apos:Pos}{e o:Expr}{es:List Expr}{ta:TE}{t:TA}
structure Mk (K:W.Frag)(C f:Zm):Prop where
 makes:W.makesIn K C=Zg
 init:W.findIn K (.ref C) "__init__"=Za (Za (.ref f))
 fn:W.isFn K (.ref f)=Zg
 kp:W.keepIn K (.ref C)=Zg
end
section
variable {X:Cx}{CX:CXT}{k:Nat}{f C:Zm}{fd:ZaD}{ps ks:List Str}{sp:Sp}{E:XK}{x m:Str}{p pos apos kpos:Pos}{e o:Expr}{es:List Expr}{kws:List Zed}{te ta:TE}{t tk:TA}{nm:Option Str}
variable {g:List Ze->List Ze->List Ze}{gV:List V->List V->List V}
end
structure FnScope (N P:List Str)(sc:Zbi):Prop where
 kind:sc.kind=.function
 co:sc.isCoroutine=Zj
 gen:sc.isGenerator=Zj
 nd:N.Nodup
 pre:N.take P.length=P
 par:∀x∈P,sc.names.lookup x=Za .local∨sc.names.lookup x=Za .cell
 nofree:∀y∈sc.names,y.2≠.free
theorem Jk5 {kindOf:Str->Option Zbd}{x:Str}:∀{binds:List (Str×Ze)}{m:Str->Option Ze},(∀v,(x,v)∉binds)->bindL kindOf binds m x=m x
 | [],_,_=>rfl
 | (n,v)::r,m,h=>by
  unfold bindL
  rw[Jk5 λ w hw=>h w (Zp _ hw)]
  split
  ·have:x≠n:=by rintro rfl;exact h v Z7
   simp[this]
  ·rfl
theorem Jk3 {kindOf:Str->Option Zbd}{x:Str}:∀{binds:List (Str×Ze)}{m:Str->Option Ze},(∀v,(x,v)∉binds)->bindC kindOf binds m x=m x
 | [],_,_=>rfl
 | (n,v)::r,m,h=>by
  unfold bindC
  rw[Jk3 λ w hw=>h w (Zp _ hw)]
  split
  ·rfl
  ·have:x≠n:=by rintro rfl;exact h v Z7
   simp[this]
theorem Jk4 {kindOf:Str->Option Zbd}{x:Str}{v:Ze}:∀{P:List Str}{vs:List Ze}{i:Nat}{m:Str->Option Ze},P.Nodup->P[i]?=Za x->vs[i]?=Za v->kindOf x=Za .local ->
  bindL kindOf (P.zip vs) m x=Za v
 | [],_,_,_,_,h,_,_=>by simp at h
 | _::_,[],_,_,_,_,h,_=>by simp at h
 | p::P,w::vs,0,m,nd,h1,h2,hk=>by
  simp at h1 h2;subst h1;subst h2
  show bindL kindOf ((p,w)::P.zip vs) m p=_
  unfold bindL
  rw[Jk5 λ v hv=>(Zco.mp nd).1 (ZdO hv).1,if_pos hk]
  simp
 | p::P,w::vs,i+1,m,nd,h1,h2,hk=>by
  show bindL kindOf ((p,w)::P.zip vs) m x=_
  unfold bindL
  exact Jk4 (i:=i) (Zco.mp nd).2 (by simpa using h1) (by simpa using h2) hk
theorem Jk2 {kindOf:Str->Option Zbd}{x:Str}{v:Ze}:∀{P:List Str}{vs:List Ze}{i:Nat}{m:Str->Option Ze},P.Nodup->P[i]?=Za x->vs[i]?=Za v->kindOf x≠Za .local ->
  bindC kindOf (P.zip vs) m x=Za v
 | [],_,_,_,_,h,_,_=>by simp at h
 | _::_,[],_,_,_,_,h,_=>by simp at h
 | p::P,w::vs,0,m,nd,h1,h2,hk=>by
  simp at h1 h2;subst h1;subst h2
  show bindC kindOf ((p,w)::P.zip vs) m p=_
  unfold bindC
  rw[Jk3 λ v hv=>(Zco.mp nd).1 (ZdO hv).1,if_neg hk]
  simp
 | p::P,w::vs,i+1,m,nd,h1,h2,hk=>by
  show bindC kindOf ((p,w)::P.zip vs) m x=_
  unfold bindC
  exact Jk2 (i:=i) (Zco.mp nd).2 (by simpa using h1) (by simpa using h2) hk
def start (N:List Str)(vs:List V):St:=vs.map Za++ZS (N.length-vs.length) Zc
def cxOf (CX:CXT)(P:ZA)(w:ZW)(K:W.Frag)(mg:Str->Option Ze)(base:Zas)(N:List Str)(qual:Str)(scope:Zbi)(f:Zm)(cd:Ze)(A:ZO)(outer:List Env)(s:Zl)(H:Hp)(E:XK):Cx where
 prog:=P
 w:=w
 K:=K
 mg:=mg
 base:=base
 A:=A.deeper (ZdV qual scope s.heap.objs.size f cd)
 N:=N
 s₀:=s
 H₀:=H
 env:=ZdV qual scope s.heap.objs.size f cd
 outer:=outer
 stack:=ZdV qual scope s.heap.objs.size f cd::outer
 ex:=[]
 calm:=Zg
 fn:=λ _=>Zg
 pn:=[]
 xe:=λ e s'=>Zx (Z8 P w) (A.deeper (ZdV qual scope s.heap.objs.size f cd)) (leaving (ZdV qual scope s.heap.objs.size f cd) e) (λ _ s''=>CX outer H s E e s'') (λ e' s''=>CX outer H s E e' s'') s'
theorem Jn8 {sc:Zbi}{n:Nat}{x:Str}(h:sc.names.lookup x=Za .cell):∃c,(cellsFrom n sc.names []).lookup x=Za c:=by
 have q:=W.cellsFrom_some sc.names n [] (.inl h)
 exact Zbh.mp q
theorem Jrv {CX:CXT}{P:ZA}{w:ZW}{K:W.Frag}{mg:Str->Option Ze}{base:Zas}{N ps:List Str}{qual:Str}{scope:Zbi}{f:Zm}{cd:Ze}{A:ZO}{outer:List Env}{s s1:Zl}{H:Hp}{E:XK}{us:List Ze}{vs:List V}
  (S:FnScope N ps scope)(hd:A.handled=Zc)(e0:Env0 P w K mg base A outer s H)(hl:vs.length=ps.length)(r:Vals vs us)
  (x:InCallC s s.heap.objs.size (bindL (ZdV qual scope s.heap.objs.size f cd).kindOf (ps.zip us) λ _=>Zc) (cellsFrom (s.heap.objs.size+1) scope.names []) (bindC (ZdV qual scope s.heap.objs.size f cd).kindOf (ps.zip us) λ _=>Zc) s1) :
  Inv (cxOf CX P w K mg base N qual scope f cd A outer s H E) [] (start N vs) H s1:=by
 have hpl:ps.length<=N.length:=by have:=congrArg List.length S.pre;rw[Zbs] at this;omega
 obtain⟨h1,tk,rfl,hk⟩:=x.done
 have noA:∀b:Zm,b∉(cxOf CX P w K mg base N qual scope f cd A outer s H E).ex:=λ b z=>absurd (show b∈([]:List Zm) from z) (by simp)
 refine⟨⟨e0.mod,S.kind,rfl,rfl,Zo _,λ y z c h1 h2=>?_,λ y hy=>?_,λ y c _ h=>?_,λ _=>hd,Around.frames_deeper e0.frames,.inr ⟨rfl,rfl⟩,λ b z=>absurd z (noA b),e0.bs,e0.bsz,λ b _ _=>noA b,λ b z=>absurd z (noA b),e0.funs,e0.frf⟩,
  rfl,e0.bare,Un.kept hk,⟨_,x.toInCall.ns,λ i y v h1 h2 h3=>?_⟩,λ y c h=>⟨_,x.cell y c h⟩,e0.hok.fresh (Zo _),λ y c h=>?_,λ p hp=>absurd (show p∈([]:PnT) from hp) (by simp),e0.hok.kept hk,?_⟩
 ·exact name_of_addr x.apart (Zaf h1) (Zaf h2)
 ·have hy:scope.names.lookup y=Za .cell∨scope.names.lookup y=Za .free:=hy
  rcases hy with hy|hy
  ·exact Jn8 hy
  ·exact absurd rfl (S.nofree _ (Zaf hy))
 ·exact ZbZ (x.above y c (Zaf h))
 ·have hi:i<vs.length:=by
   unfold start at h2
   by_cases hi:i<vs.length
   ·exact hi
   ·rw[Z9 (by simpa using hi)] at h2
    rw[ZbD] at h2
    split at h2<;>cases h2
  have ha:vs[i]?=Za v:=by
   unfold start at h2
   rw[ZE (by simpa using hi),Zv] at h2
   cases e:vs[i]? with
   | none=>rw[e] at h2;cases h2
   | some a=>rw[e] at h2;cases h2;rfl
  obtain⟨u,hu,rv⟩:=r.get ha
  have hp:ps[i]?=Za y:=by
   rw[<- S.pre,List.getElem?_take_of_lt (by omega)];exact h1
  have ndP:ps.Nodup:=by rw[<- S.pre];exact S.nd.sublist (List.take_sublist _ _)
  refine⟨u,rv,?_⟩
  rcases S.par y (ZbV hp) with k|k
  ·exact .inl ⟨k,Jk4 ndP hp hu k⟩
  ·obtain⟨c,e⟩:=Jn8 (n:=s.heap.objs.size+1) k
   refine .inr ⟨.inl k,c,e,?_⟩
   have q:=x.cell y c e
   rw[Jk2 ndP hp hu (by show scope.names.lookup y≠_;rw[k];decide)] at q
   exact q
 ·exact e0.hok.fresh (ZbZ (x.above y c (Zaf h)))
 ·unfold start
  show _=N.length
  rw[Zt,Zi,Zbz]
  omega
theorem J21 {CX:CXT}{P:ZA}{w:ZW}{K:W.Frag}{mg:Str->Option Ze}{base:Zas}{k:Nat}{f:Zm}{name qual:Str}{params:Zca}{body:List Zdi}{scope:Zbi}{dV kV doc pm cdv ct oc:Ze}{an od:Option Zm}
  {osl:Array (Option Ze)}{N ps:List Str}{sp:Sp}(lk:K.lookup f=Za ⟨oc,od,.func (W.fnOf name qual params body scope dV kV doc pm an cdv ct),osl⟩)(hcd:W.codeIn K cdv qual=Zg)(S:FnScope N ps scope)
  (len:∀vs H Q E,sp vs H Q E->vs.length=ps.length)
  (hbody:∀(A:ZO)(outer:List Env)(s:Zl)(H:Hp)(vs:List V)(Q:VK)(E:XK),Room k (A.deeper (ZdV qual scope s.heap.objs.size f cdv))->sp vs H Q E ->
   ∃t,PSs (cxOf CX P w K mg base N qual scope f cdv A outer s H E) body t/\t { nx:=λ _ H'=>Q .non H',rt:=Q } (start N vs) H) :
  FnOk P w K mg base CX (k+1) f (W.fnOf name qual params body scope dV kV doc pm an cdv ct) ps sp:=by
 refine⟨len,λ A outer s H args us vs Q E hr e0 hb r hsp=>?_⟩
 have hl:=len _ _ _ _ hsp
 have KX:K.In s.heap:=e0.mod.kin.keeps λ b o e=>(e0.bs b o e).1
 have lim:s.heap.NoLimit:=e0.mod.nolimit.keeps λ b o e=>(e0.bs b o e).1
 have hkind:∀y∈ps.zip us,scope.names.lookup y.1=Za .local∨(scope.names.lookup y.1=Za .cell/\((cellsFrom (s.heap.objs.size+1) scope.names []).lookup y.1).isSome=Zg):=λ ⟨n,v⟩ hy=>by
  rcases S.par n (ZdO hy).1 with q|q
  ·exact .inl q
  ·exact .inr ⟨q,W.cellsFrom_some _ _ _ (.inl q)⟩
 refine codeAny_call_function hr.depth (KX _ _ lk) rfl S.co S.gen rfl (W.codeRec_of KX hcd) (hb _ _ _ _ ?_)
 refine wpAny_newFunctionEnv_cells S.kind hkind λ env he s1 x=>?_
 subst he
 refine⟨lim.keeps x.toInCall.keep,codeAny_func ?_⟩
 obtain⟨t,ht,hq⟩:=hbody A outer s H vs Q E (hr.deeper _) hsp
 have I:Inv (cxOf CX P w K mg base N qual scope f cdv A outer s H E) [] (start N vs) H s1:=Jrv S hr.hd e0 hl r x
 refine Zam (ht [] s1 (start N vs) H _ I hq) (λ fl s' hs=>?_) λ e s' hs=>hs
 have fin:∀{σ':St}{H':Hp}{v:V}{u:Ze},Inv (cxOf CX P w K mg base N qual scope f cdv A outer s H E) [] σ' H' s'->RelV v u->Q v H'->CE outer P w H s Q u s' :=
  λ {σ' H' v u} J rv q=>⟨v,H',J.os,J.bare,J.base,J.hok,rv,q⟩
 cases fl with
 | ret u =>
  obtain⟨v,σ',H',J,rv,q⟩:=hs
  exact fin J rv q
 | next =>
  obtain⟨σ',H',J,q⟩:=hs
  exact fin (v:=V.non) (u:=ZV) J rfl q
 | brk =>
  obtain⟨_,_,_,q⟩:=hs
  exact Zbt q
 | cont =>
  obtain⟨_,_,_,q⟩:=hs
  exact Zbt q
section
variable {X:Cx}{x:Str}{p pos:Pos}{e:Expr}{es:List Expr}{t:TA}{id T:String}{r:List V->Hp->VK->Prop}
end
end L2
namespace HT
open PySem PyProof.Rows
section
open PySem.SeqAt
open PySem.AutoSeq1 (wpAny_loadPart')
open PySem.MeetsSeq PySem.MeetsSeq2 PySem.MeetsSeq3
end
section
variable {prog:ZA}{w:ZW}{A:ZO}{E:QvT}{s:Zl}
theorem cat_tup {t b:Zm}{vs ws:List Ze}{Q:QvT}(ht:IsTup s.heap t vs.toArray)(hb:IsTup s.heap b ws.toArray)(hv:vs≠[])
  (h1:ws=[]->Q (.ref t) s)(h2:ws≠[]->Q (.ref s.heap.objs.size) { s with heap:=s.heap.push { cls:=.type "tuple",data:=.seq (vs++ws).toArray } })
  (hsz:vs.length+ws.length<=sizeLine):Zx (Z8 prog w) A (ZaQ .Add (.ref t) (.ref b)) Q E s:=by
 obtain⟨⟨cls,dd,data,sl⟩,ho,hc,n,hd⟩:=id ht
 obtain⟨⟨cls2,dd2,data2,sl2⟩,ho2,hc2,n2,hd2⟩:=id hb
 simp only at hc hd hc2 hd2
 subst hc hd hc2 hd2
 have e:vs.toArray++ws.toArray=(vs++ws).toArray:=by simp
 by_cases hw:ws=[]
 ·exact concat_meets ⟨_,ho,rfl⟩ ⟨_,ho2,rfl⟩ noFill_tuple_add seq_tuple_add ZdH Zd3 (Zdw _ _)
   (tuple_addW1 t b vs.toArray ws.toArray n n2 dd dd2 sl sl2 (by simpa using hv) (by simp[hw])) ⟨ho,ho2,h1 hw⟩
 ·refine concat_meets ⟨_,ho,rfl⟩ ⟨_,ho2,rfl⟩ noFill_tuple_add seq_tuple_add ZdH Zd3 (Zdw _ _)
   (tuple_addW2 t b vs.toArray ws.toArray n n2 dd dd2 sl sl2 (by simpa using hv) (by simpa using hw) (by rw[Zu,Zu];exact hsz)) ⟨ho,ho2,?_⟩
  rw[e]
  exact h2 hw
def sIx (n d:Nat):Option Int->Nat
 | none=>d
 | some v=>if v<0 then(v+(n:Int)).toNat else min v.toNat n
theorem sIx_none (n d:Nat):sIx n d Zc=d:=rfl
theorem sIx_nat (n d k:Nat):sIx n d (Za (k:Int))=min k n:=by
 show(if (k:Int)<0 then((k:Int)+(n:Int)).toNat else min (k:Int).toNat n)=min k n
 rw[if_neg (by omega),ZaF]
end
end HT
namespace L2
open PySem PySem.Spec PyProof.Rows
abbrev TO:=St->Hp->(Option Int->Hp->Prop)->Prop
section
variable {X:Cx}{e:Expr}{te:TE}{lo hi:Option Expr}{tl th:TO}{pos p2:Pos}
def SlR (X:Cx)(r:V->Option Int->Option Int->Hp->VK->Prop):Prop :=
 ∀(pj:PnT)(s:Zl)(σ:St)(H:Hp)(x:V)(v vl vu:Ze)(lo hi:Option Int)(sl:Zm)(Q:VK),Inv X pj σ H s->RelV x v->s.heap.IsSliceOf sl vl vu .none->Ze3 vl lo->Ze3 vu hi->r x lo hi H Q ->
  ∃T id,typeLookup (.type T) "__getitem__"=pure (Za (.builtin id))/\s.TypeIs v T/\Zx (Z8 X.prog X.w) X.A (ZdI v (.ref sl)) (EP X pj σ Q) X.xe s
def cutV (xs:List V)(lo hi:Option Int):List V:=(xs.drop (HT.sIx xs.length 0 lo)).take (HT.sIx xs.length xs.length hi-HT.sIx xs.length 0 lo)
theorem Jm6 (xs:List V)(lo hi:Option Int):(cutV xs lo hi).length<=xs.length:=by
 unfold cutV
 rw[Zbs,ZcJ]
 omega
def J31 (K:W.Frag):R2:=λ x y H Q=>∃a b xs ys,x=.ref a/\y=.ref b/\SqT K H a xs/\SqT K H b ys/\xs≠[]/\xs.length+ys.length<=sizeLine /\
 (ys=[]->Q (.ref a) H)/\(ys≠[]->∀p,H p=Zc->Q (.ref p) (upd H p (.tup (xs++ys))))
theorem Vals.nil_iff {xs:List V}{us:List Ze}(r:Vals xs us):us=[]↔xs=[]:=by
 cases r with
 | nil=>simp
 | cons _ _=>simp
theorem Jyq:OpR X (ZaQ .Add) (J31 X.K):=by
 intro pj s σ H x y v u Q I rx ry h
 obtain⟨a,b,xs,ys,rfl,rfl,ha,hb,hx,hz,q1,q2⟩:=h
 cases rx
 cases ry
 obtain⟨its,r1,p1,_⟩:=I.tuple ha
 obtain⟨its2,r2,p2,_⟩:=I.tuple hb
 refine HT.cat_tup p1 p2 (λ z=>hx (r1.nil_iff.mp z)) (λ z=>⟨.ref a,H,I,rfl,q1 (r2.nil_iff.mp z)⟩) (λ z=>?_) (by rw[<- r1.length,<-r2.length];exact hz)
 refine⟨.ref s.heap.objs.size,_,I.laid (t':=s.toks) (o:=.tup (xs++ys)) (λ b ob q=>Zh _ q) (Zo _) ?_,rfl,q2 (λ w=>z (r2.nil_iff.mpr w)) _ (I.hok.fresh (Zo _))⟩
 exact⟨by rw[Zt];exact hz,_,r1.append r2,IsTup.new _ _⟩
end
noncomputable def ixN (n:Nat)(i:Int):Option Nat:=if 0<=i then(if i<n then Za i.toNat else Zc) else if -(n:Int)<=i then Za (i+n).toNat else Zc
noncomputable def atI {α:Type}(xs:List α)(i:Int):Option α:=(ixN xs.length i).bind λ j=>xs[j]?
theorem Jrz {n:Nat}{i:Int}{j:Nat}(h:ixN n i=Za j):seqIndex? i n=Za j/\j<n/\ -(n:Int)<=i/\i<n:=by
 unfold ixN at h
 by_cases h0:0<=i
 ·rw[if_pos h0] at h
  by_cases h1:i<n
  ·rw[if_pos h1] at h
   have e:i.toNat=j:=Zaj h
   exact⟨by rw[ZdW h0 h1,e],by omega,by omega,h1⟩
  ·rw[if_neg h1] at h;cases h
 ·rw[if_neg h0] at h
  by_cases h1: -(n:Int)<=i
  ·rw[if_pos h1] at h
   have e:(i+n).toNat=j:=Zaj h
   exact⟨by rw[Zex (by omega) h1,e],by omega,h1,by omega⟩
  ·rw[if_neg h1] at h;cases h
theorem Jjg {α:Type}{xs:List α}{i:Int}{v:α}(h:atI xs i=Za v):∃j,seqIndex? i xs.length=Za j/\xs[j]?=Za v/\j<xs.length/\ -(xs.length:Int)<=i/\i<xs.length:=by
 unfold atI at h
 cases e:ixN xs.length i with
 | none=>rw[e] at h;cases h
 | some j =>
  rw[e] at h
  obtain⟨h1,h2,h3,h4⟩:=Jrz e
  exact⟨j,h1,h,h2,h3,h4⟩
def Jqr (b:Expr):Prop:=∀o i,ZdX b Zj o i=operate [o,i] (ZdI o i)
def IxR (X:Cx)(r:R2):Prop :=
 ∀(value slice:Expr)(pj:PnT)(s:Zl)(σ:St)(H:Hp)(x y:V)(v u:Ze)(Q:VK),Inv X pj σ H s->RelV x v->RelV y u->r x y H Q ->
  ZdX slice Zj v u=operate [v,u] (ZdI v u)->Zx (Z8 X.prog X.w) X.A (Zdx value slice v u) (EP X pj σ Q) X.xe s
section
variable {X:Cx}{a b:Expr}{ta tb:TE}{pos:Pos}
def rIxL (K:W.Frag):R2:=λ x y H Q=>∃p xs i v,x=.ref p/\y=.int i/\SqL K H p xs/\atI xs i=Za v/\Q v H
def rIxT (K:W.Frag):R2:=λ x y H Q=>∃p xs i v,x=.ref p/\y=.int i/\SqT K H p xs/\atI xs i=Za v/\Q v H
def rIxS:R2:=λ x y H Q=>∃z i c,x=.str z/\y=.int i/\z.length<=sizeLine/\atI z.cps.toList i=Za c/\Q (.str ⟨#[c]⟩) H
theorem Jr0:IxR X (rIxL X.K):=by
 intro value slice pj s σ H x y v u Q I rx ry h hs
 obtain⟨p,xs,i,z,rfl,rfl,hq,he,q⟩:=h
 cases rx
 obtain⟨t,rfl⟩:=ry
 obtain⟨its,r,pl,hz⟩:=I.list hq
 obtain⟨j,h1,h2,h3,h4,h5⟩:=Jjg he
 obtain⟨w,ew,rw'⟩:=r.get h2
 have hl:=r.length
 have hn:=Xq
 have fin:EP X pj σ Q w s:=⟨z,H,I,rw',q⟩
 by_cases h0:0<=i
 ·have hj:i.toNat=j:=by
   rw[ZdW h0 h5] at h1
   exact Zaj h1
  exact item_listR pl.isList h0 (by omega) (by rw[hj];simpa using ew) fin hs
 ·have hj:(i+(its.toArray.size:Int)).toNat=j:=by
   rw[Zex (by omega) h4] at h1
   rw[Zu,<-hl]
   exact Zaj h1
  exact Zc8 (x:=w) pl.isList.typeIs slot_list_getitem.lookup
   (wpAny_getItem_list_neg (Q:=λ r s'=>r=w/\EP X pj σ Q r s') pl.isList (by omega) (by rw[Zu]<;>omega) (by omega) (by rw[hj];simpa using ew) ⟨rfl,fin⟩) hs
theorem J0u:IxR X (rIxT X.K):=by
 intro value slice pj s σ H x y v u Q I rx ry h hs
 obtain⟨p,xs,i,z,rfl,rfl,hq,he,q⟩:=h
 cases rx
 obtain⟨t,rfl⟩:=ry
 obtain⟨its,r,pl,hz⟩:=I.tuple hq
 obtain⟨j,h1,h2,h3,h4,h5⟩:=Jjg he
 obtain⟨w,ew,rw'⟩:=r.get h2
 have hl:=r.length
 have hn:=Xq
 have fin:EP X pj σ Q w s:=⟨z,H,I,rw',q⟩
 exact Zc8 (x:=w) pl.typeIs slot_tuple_getitem.lookup
  (getItem_tuple (j:=j) (Q:=λ r s'=>r=w/\EP X pj σ Q r s') pl (by omega) (by omega) (by rw[Zu,<-hl];exact h1) (by simpa using ew) ⟨rfl,fin⟩) hs
theorem J0t:IxR X rIxS:=by
 intro value slice pj s σ H x y v u Q I rx ry h hs
 obtain⟨z,i,c,rfl,rfl,hz,he,q⟩:=h
 obtain⟨t,rfl⟩:=rx
 obtain⟨t',rfl⟩:=ry
 obtain⟨j,h1,h2,h3,h4,h5⟩:=Jjg he
 have hl:z.cps.toList.length=z.length:=by simp[Zeo]
 rw[hl] at h1 h4 h5
 have hn:=Xq
 exact tail_any (typeIs_str s z t) slot_str_getitem.lookup (getItem_str (c:=c) (by
  have e1:decide (i< -(2^63:Int))=Zj:=decide_eq_false (by omega)
  have e2:decide (i ≥ 2^63)=Zj:=decide_eq_false (by omega)
  rw[e1,e2,Bool.or_false]) (by rw[h1];simpa using h2) ⟨.str ⟨#[c]⟩,H,I.tok _,⟨_,rfl⟩,q⟩) hs
theorem Jqa (its:List Ze)(n j:Nat)(u:Ze):Zan (·.setIfInBounds j u) { cls:=.type "list",data:=.seq its.toArray n }={ cls:=.type "list",data:=.seq (its.set j u).toArray n }:=by
 simp[Zan]
theorem Inv.lst {pj:PnT}{σ:St}{H:Hp}{s:Zl}{p:Zm}{xs:List V}(I:Inv X pj σ H s)(h:H p=Za (.lst xs)) :
  ∃(its:List Ze) (n:Nat),Vals xs its/\s.heap.get? p=Za { cls:=.type "list",data:=.seq its.toArray n }/\xs.length<=sizeLine:=by
 obtain⟨z,its,n,r,e⟩:=I.hok p _ h
 exact⟨its,n,r,e,z⟩
theorem Inv.lstUpd {pj:PnT}{σ:St}{H:Hp}{s:Zl}{p:Zm}{xs ys:List V}{its its':List Ze}{n n':Nat}{f:Obj->Obj}(I:Inv X pj σ H s)(h:H p=Za (.lst xs))
  (ho:s.heap.get? p=Za { cls:=.type "list",data:=.seq its.toArray n })(hf:f { cls:=.type "list",data:=.seq its.toArray n }={ cls:=.type "list",data:=.seq its'.toArray n' })(r:Vals ys its')(hz:ys.length<=sizeLine)(t:Nat) :
  Inv X pj σ (upd H p (.lst ys)) { s with heap:=s.heap.update p f,toks:=t }:=by
 have e:(s.heap.update p f).get? p=Za { cls:=.type "list",data:=.seq its'.toArray n' }:=by
  rw[Za5 f ho (by rw[hf]<;>rfl),hf]
 refine I.write (x:=p) (e:=p) (by rw[h];trivial) (.inl rfl) (λ b u hb q=>(Zw _ _ (ZQ hb)).trans q) ⟨_,e⟩ ?_
 exact⟨hz,its',n',r,e⟩
def J32:V->V->V->Hp->(Hp->Prop)->Prop:=λ o i v H Q=>∃p xs k j,o=.ref p/\i=.int k/\H p=Za (.lst xs)/\ixN xs.length k=Za j/\Q (upd H p (.lst (xs.set j v)))
theorem Ju3:PSet X J32:=by
 intro pj s σ H o i v ov iv u Q I ro ri rv h
 obtain⟨p,xs,k,j,rfl,rfl,hp,hj,q⟩:=h
 cases ro
 obtain⟨t,rfl⟩:=ri
 obtain⟨its,n,r,ho,hz⟩:=I.lst hp
 obtain⟨h1,h2,h3,h4⟩:=Jrz hj
 have hl:=r.length
 have hn:=Xq
 have I':Inv X pj σ (upd H p (.lst (xs.set j v))) { s with heap:=s.heap.update p (Zan (·.setIfInBounds j u)) } :=
  I.lstUpd hp ho (Jqa its n j u) (r.set rv j) (by rw[Zbo];exact hz) s.toks
 by_cases h0:0<=k
 ·have hk:k.toNat=j:=by
   rw[ZdW h0 h4] at h1
   exact Zaj h1
  exact W.ki_setAt ho h0 (by omega) (by rw[Zu,<-hl];exact h4) (by rw[hk];exact⟨_,I',q⟩)
 ·have hk:(k+(its.toArray.size:Int)).toNat=j:=by
   rw[Zex (by omega) h3] at h1
   rw[Zu,<-hl]
   exact Zaj h1
  exact W.ki_setBack ho (by omega) (by rw[Zu,<-hl];exact h3) (by omega) (by rw[hk];exact⟨_,I',q⟩)
theorem Jmr (lo hi:Option Int)(n:Nat):(Zcv lo hi Zc n).1=((HT.sIx n 0 lo:Nat):Int)/\(Zcv lo hi Zc n).2.1=((HT.sIx n n hi:Nat):Int)/\(Zcv lo hi Zc n).2.2=1:=by
 refine⟨?_,?_,rfl⟩
 ·cases lo with
  | none=>simp[Zcv,HT.sIx]
  | some i =>
   simp only[Zcv,HT.sIx,Option.getD_none,show(1:Int)>0 by decide,if_true]
   by_cases h:i<0
   ·simp only[h,if_true]<;>omega
   ·simp only[h,if_false]<;>omega
 ·cases hi with
  | none=>simp[Zcv,HT.sIx]
  | some i =>
   simp only[Zcv,HT.sIx,Option.getD_none,show(1:Int)>0 by decide,if_true]
   by_cases h:i<0
   ·simp only[h,if_true]<;>omega
   ·simp only[h,if_false]<;>omega
theorem Jki (its:List Ze)(lo hi:Option Int):slicePick its.toArray lo hi Zc=((its.drop (HT.sIx its.length 0 lo)).take (HT.sIx its.length its.length hi-HT.sIx its.length 0 lo)).toArray:=by
 obtain⟨h1,h2,h3⟩:=Jmr lo hi its.toArray.size
 unfold slicePick
 rw[h1,h2,h3]
 simp only[sliceRange_one,pick_run,Zu]<;>rfl
def rSlL (K:W.Frag):V->Option Int->Option Int->Hp->VK->Prop:=λ x lo hi H Q=>∃a xs,x=.ref a/\SqL K H a xs/\∀p,H p=Zc->Q (.ref p) (upd H p (.lst (cutV xs lo hi)))
theorem Jsz:SlR X (rSlL X.K):=by
 intro pj s σ H x v vl vu lo hi sl Q I rx hs pl pu h
 obtain⟨a,xs,rfl,hx,q⟩:=h
 cases rx
 obtain⟨its,r,ht,hz⟩:=I.list hx
 have hlen:=r.length
 refine⟨"list",_,slot_list_getitem.lookup,ht.isList.typeIs,?_⟩
 refine wpAny_getItem_list_slice ht.isList hs pl pu .none (by simp) ?_ (by rw[Zu]<;>omega)
 rw[Jki,<-hlen]
 refine⟨.ref s.heap.objs.size,_,I.laid (t':=s.toks) (o:=.lst (cutV xs lo hi)) (λ b ob q=>Zh _ q) (Zo _) ?_,rfl,q _ (I.hok.fresh (Zo _))⟩
 exact⟨ZY (Jm6 xs lo hi) hz,_,0,(r.drop (HT.sIx xs.length 0 lo)).take (HT.sIx xs.length xs.length hi-HT.sIx xs.length 0 lo),Z2 _ rfl⟩
theorem Jc6:Xg X (.type "list") (λ xs H Q=>∃p ys,xs=[.ref p]/\(SqL X.K H p ys∨SqT X.K H p ys)/\∀l,H l=Zc->Q (.ref l) (upd H l (.lst ys))):=by
 intro pj s σ H xs us Q I r h
 obtain⟨p,ys,rfl,hq,q⟩:=h
 obtain⟨u,rfl,rx⟩:=Q0 r
 cases rx
 have fin:∀(its:List Ze),Vals ys its->ys.length<=sizeLine->∀(h':Zas)(c':Nat),(∀b o',s.heap.get? b=Za o'->h'.get? b=Za o') ->
   h'.get? s.heap.objs.size=Za { cls:=.type "list",dict:=Zc,data:=.seq its.toArray c',slots:=#[] }->EP X pj σ Q (.ref s.heap.objs.size) { s with heap:=h' }:=λ its r' hz h' c' kp e =>
  ⟨.ref s.heap.objs.size,_,I.laid (t':=s.toks) kp (Zo _) (show JM X.prog X.w _ h' _ (.lst ys) from⟨hz,its,c',r',e⟩),rfl,q _ (I.hok.fresh (Zo _))⟩
 rcases hq with hq|hq
 ·obtain⟨its,r',pl,hz⟩:=I.list hq
  have hlen:=r'.length
  obtain⟨o,ho,hc,n,hd⟩:=pl.isList
  exact call_list_seq p (.inl rfl) ho hc hd (λ h' c' kp e=>fin its r' hz h' c' kp e) (by simp only[Zu]<;>omega)
 ·obtain⟨its,r',pl,hz⟩:=I.tuple hq
  have hlen:=r'.length
  obtain⟨o,ho,hc,n,hd⟩:=pl
  exact call_list_seq p (.inr rfl) ho hc hd (λ h' c' kp e=>fin its r' hz h' c' kp e) (by simp only[Zu]<;>omega)
theorem Jfa:Xg X (.type "tuple") (λ xs H Q=>∃p ys,xs=[.ref p]/\((SqL X.K H p ys/\∀l,H l=Zc->Q (.ref l) (upd H l (.tup ys)))∨(SqT X.K H p ys/\Q (.ref p) H))):=by
 intro pj s σ H xs us Q I r h
 obtain⟨p,ys,rfl,h⟩:=h
 obtain⟨u,rfl,rx⟩:=Q0 r
 cases rx
 rcases h with⟨hq,q⟩|⟨hq,q⟩
 ·obtain⟨its,r',pl,hz⟩:=I.list hq
  have hlen:=r'.length
  refine call_tuple_list pl.isList (λ h' kp=>?_) (by simp only[Zu]<;>omega)
  have I1:Inv X pj σ H { s with heap:=h' }:=I.kept (t':=s.toks) kp
  have I2:Inv X pj σ (upd H h'.objs.size (.tup ys)) { s with heap:=h'.push { cls:=.type "tuple",data:=.seq its.toArray } } :=
   I1.laid (t':=s.toks) (λ b o e=>Zh _ e) (Zo _) (show JM X.prog X.w _ _ _ (.tup ys) from⟨hz,its,r',IsTup.new _ _⟩)
  exact⟨.ref h'.objs.size,_,I2,rfl,q _ (I1.hok.fresh (Zo _))⟩
 ·obtain⟨its,r',pl,hz⟩:=I.tuple hq
  exact call_tuple_same pl ⟨.ref p,H,I,rfl,q⟩
def tyV (K:W.Frag)(T:String)(x:V)(H:Hp):Prop:=match x with
 | .str _=>T="str"
 | .int _=>T="int"
 | .ref p=>(T="list"/\∃xs,SqL K H p xs)∨(T="tuple"/\∃o,K.lookup p=Za o/\o.cls=.type "tuple"/\o.dict=Zc) ∨
   (T="dict"/\((∃kvs,H p=Za (.dK kvs))∨∃kvs,H p=Za (.dT kvs)))∨(T="set"/\∃S n,H p=Za (.set S n))
 | _=>False
theorem Jw3 {pj:PnT}{σ:St}{H:Hp}{s:Zl}{T:String}{x:V}{v:Ze}(I:Inv X pj σ H s)(r:RelV x v)(ty:tyV X.K T x H) :
  s.TypeIs v T/\∀a,v=.ref a->∃ob,s.heap.get? a=Za ob/\ob.dict=Zc:=by
 cases x with
 | str z =>
  obtain⟨t,rfl⟩:=r
  cases (show T="str" from ty)
  exact⟨typeIs_str s z t,λ _ e=>nomatch e⟩
 | int i =>
  obtain⟨t,rfl⟩:=r
  cases (show T="int" from ty)
  exact⟨typeIs_int s i t,λ _ e=>nomatch e⟩
 | ref p =>
  cases r
  rcases ty with⟨rfl,xs,hq⟩|⟨rfl,o,hk,hc,hd⟩|⟨rfl,hk⟩|⟨rfl,S,n,hk⟩
  ·obtain⟨its,_,pl,_⟩:=I.list hq
   refine⟨pl.isList.typeIs,λ a e=>?_⟩
   cases e
   obtain⟨o,n,e,c,hd,_⟩:=pl
   exact⟨o,e,hd⟩
  ·refine⟨⟨o,I.kIn p o hk,hc⟩,λ a e=>?_⟩
   cases e
   exact⟨o,I.kIn _ o hk,hd⟩
  ·have z:∃o,s.heap.get? p=Za o/\o.ExactDict:=by
    rcases hk with⟨kvs,hk⟩|⟨kvs,hk⟩
    ·obtain⟨_,_,_,_,o,_,_,e,ex,_⟩:=I.hok p _ hk
     exact⟨o,e,ex⟩
    ·obtain⟨_,_,_,_,o,_,_,e,ex,_⟩:=I.hok p _ hk
     exact⟨o,e,ex⟩
   obtain⟨o,e,ex⟩:=z
   refine⟨⟨o,e,ex.1⟩,λ a e2=>?_⟩
   cases e2
   exact⟨o,e,ex.2.1⟩
  ·obtain⟨o,_,_,_,e,ex,_⟩:=I.hok p _ hk
   refine⟨⟨o,e,ex.1⟩,λ a e2=>?_⟩
   cases e2
   exact⟨o,e,ex.2.1⟩
 | _=>exact Zbt ty
variable {o e:Expr}{es:List Expr}{to:TE}{t:TA}{name:Str}{apos cpos:Pos}{T id:String}{r:V->List V->Hp->VK->Prop}
end
def MtM (X:Cx)(id:String)(r:V->List V->Hp->VK->Prop):Prop :=
 ∀(pj:PnT)(s:Zl)(σ:St)(H:Hp)(x:V)(xs:List V)(v:Ze)(us:List Ze)(Q:VK),Inv X pj σ H s->RelV x v->Vals xs us->r x xs H Q ->
  Zx (Z8 X.prog X.w) X.A (call (.builtin id) (v::us)) (EP X pj σ Q) X.xe s
theorem Vals.one:∀{x:V}{us:List Ze},Vals [x] us->∃u,us=[u]/\RelV x u
 | _,_,.cons r .nil=>⟨_,rfl,r⟩
theorem Vals.zero:∀{us:List Ze},Vals [] us->us=[]
 | _,.nil=>rfl
theorem Vals.dropLast {xs:List V}{us:List Ze}(h:Vals xs us):Vals xs.dropLast us.dropLast:=by
 induction h with
 | nil=>exact .nil
 | cons r t ih =>
  cases t with
  | nil=>exact .nil
  | cons q t'=>exact .cons r ih
theorem Vals.eraseIdx:∀{xs:List V}{us:List Ze}(i:Nat),Vals xs us->Vals (xs.eraseIdx i) (us.eraseIdx i)
 | _,_,_,.nil=>.nil
 | _,_,0,.cons _ t=>t
 | _,_,i+1,.cons r t=>.cons r (Vals.eraseIdx i t)
theorem Vals.reverse {xs:List V}{us:List Ze}(h:Vals xs us):Vals xs.reverse us.reverse:=by
 induction h with
 | nil=>exact .nil
 | cons r t ih=>rw[Zb3,Zb3];exact Vals.append ih (.cons r .nil)
theorem Vals.rep {xs:List V}{us:List Ze}(h:Vals xs us):∀k:Nat,Vals (ZS k xs).flatten (ZS k us).flatten
 | 0=>.nil
 | k+1=>by
  rw[ZaX,ZaX,Zb4,Zb4]
  exact Vals.append h (Vals.rep h k)
theorem Jps {α:Type}(l:List α):l.eraseIdx (l.length-1)=l.dropLast:=by
 induction l with
 | nil=>rfl
 | cons a r ih =>
  cases r with
  | nil=>rfl
  | cons b r =>
   have e:(a::b::r).length-1=((b::r).length-1)+1:=by
    have h1:(a::b::r).length=r.length+2:=rfl
    have h2:(b::r).length=r.length+1:=rfl
    omega
   rw[e,List.eraseIdx_cons_succ,ih]
   all_goals rfl
theorem Jl1 {α:Type}:∀(l:List α)(i:Nat),(l.eraseIdx i).length<=l.length
 | [],_=>Zo _
 | _::_,0=>ZaZ _
 | _::r,i+1=>ZcK (Jl1 r i)
theorem Jli (its:List Ze):∀(k:Nat)(acc:List Ze),
  List.foldl (λ x1 x2=>x1++x2) acc.toArray (ZS k its.toArray)=(acc++(ZS k its).flatten).toArray
 | 0,acc=>by simp
 | k+1,acc=>by
  have e:acc.toArray++its.toArray=(acc++its).toArray:=by simp
  have e2:(acc++its)++(ZS k its).flatten=acc++(ZS (k+1) its).flatten:=by
   rw[ZaX,Zb4,ZZ]
  rw[<- e2,<-Jli its k (acc++its),<-e,ZaX,List.foldl_cons]
section
variable {X:Cx}{pj:PnT}{σ:St}{H:Hp}{s:Zl}{l b:Zm}{xs ys zs:List V}
theorem Inv.lset {its its':List Ze}{n:Nat}{f:Array Ze->Array Ze}{t':Nat}(I:Inv X pj σ H s)(hH:H l=Za (.lst xs))
  (e:s.heap.get? l=Za { cls:=.type "list",data:=.seq its.toArray n })(hf:f its.toArray=its'.toArray)(hv:Vals ys its')(hz:ys.length<=sizeLine) :
  Inv X pj σ (upd H l (.lst ys)) { s with heap:=s.heap.update l (Zan f),toks:=t' }:=by
 have q:=PySem.IsL.update e f
 rw[hf] at q
 refine I.write (x:=l) (e:=l) (by rw[hH];exact trivial) (.inl rfl) (λ b' u hb hu=>(Zw s.heap (Zan f) (ZQ hb)).trans hu) ⟨_,q⟩ ?_
 exact⟨hz,its',_,hv,q⟩
theorem Inv.lnew {its:List Ze}{t':Nat}(I:Inv X pj σ H s)(hv:Vals ys its)(hz:ys.length<=sizeLine) :
  Inv X pj σ (upd H s.heap.objs.size (.lst ys)) { s with heap:=s.heap.push { cls:=.type "list",data:=.seq its.toArray },toks:=t' } :=
 I.laid (λ _ _ q=>Zh _ q) (Zo _) ⟨hz,its,0,hv,Z2 _ rfl⟩
theorem Inv.fresh (I:Inv X pj σ H s):H s.heap.objs.size=Zc:=I.hok.fresh (Zo _)
theorem Inv.lstM (I:Inv X pj σ H s)(hH:H l=Za (.lst xs)):xs.length<=sizeLine/\∃(its:List Ze) (n:Nat),Vals xs its/\xs.length=its.length/\s.heap.get? l=Za { cls:=.type "list",data:=.seq its.toArray n }:=by
 obtain⟨z,its,n,r,e⟩:=I.hok l _ hH
 exact⟨z,its,n,r,r.length,e⟩
theorem Jol {n:Nat}(h:n<=sizeLine):Zb8 n=Zj:=by
 unfold Zb8
 exact decide_eq_false (by omega)
end
section
variable {X:Cx}
def Jyv:V->List V->Hp->VK->Prop:=λ x vs H Q=>∃l xs y,x=.ref l/\vs=[y]/\H l=Za (.lst xs)/\xs.length<sizeLine/\Q .non (upd H l (.lst (xs++[y])))
theorem Jl4:MtM X "list.append" Jyv:=by
 intro pj s σ H x vs v us Q I rx rv h
 obtain⟨l,xs,y,rfl,rfl,hH,hz,q⟩:=h
 cases rx
 obtain⟨u,rfl,ru⟩:=rv.one
 obtain⟨z,its,n,r,hl,e⟩:=I.lstM hH
 refine Zdl F.slot_list_append ⟨_,e,rfl⟩ F.entry_list_append (F.args_list_append_2 _ _) (PySem.list_append l its.toArray n u (by rw[Zu];omega)) ⟨e,?_⟩
 refine⟨.non,_,I.lset (its':=its++[u]) hH e (by simp) (r.append (.cons ru .nil)) ?_,rfl,q⟩
 rw[Zt,Zac]
 omega
def Jyw:V->List V->Hp->VK->Prop:=λ x vs H Q=>∃l b xs zs,x=.ref l/\vs=[.ref b]/\H l=Za (.lst xs)/\H b=Za (.lst zs)/\xs.length+zs.length<=sizeLine/\Q .non (upd H l (.lst (xs++zs)))
theorem J1a:MtM X "list.extend" Jyw:=by
 intro pj s σ H x vs v us Q I rx rv h
 obtain⟨l,b,xs,zs,rfl,rfl,hH,hB,hz,q⟩:=h
 cases rx
 obtain⟨u,rfl,ru⟩:=rv.one
 cases ru
 obtain⟨z,its,n,r,hl,e⟩:=I.lstM hH
 obtain⟨z2,its2,n2,r2,hl2,e2⟩:=I.lstM hB
 have hsz:its.toArray.size+its2.toArray.size<=sizeLine:=by rw[Zu,Zu];omega
 have hlong:¬(!its.toArray.isEmpty&&Zb8 (its.toArray.size+its2.toArray.size))=Zg:=by
  rw[Jol hsz,Bool.and_false]
  exact Zs
 refine Zdl F.slot_list_extend ⟨_,e,rfl⟩ F.entry_list_extend (F.args_list_extend_2 _ _)
  (AutoSeq1.list_extend_list_list_0 l its.toArray n b its2.toArray n2 hlong (by rw[Zu];omega) (by omega)) ⟨e,e2,?_⟩
 refine⟨.non,_,I.lset (its':=its++its2) hH e (by simp) (r.append r2) ?_,rfl,q⟩
 rw[Zt]
 omega
def rPop:V->List V->Hp->VK->Prop:=λ x vs H Q=>∃l xs y,x=.ref l/\vs=[]/\H l=Za (.lst xs)/\xs[xs.length-1]?=Za y/\Q y (upd H l (.lst xs.dropLast))
theorem J1b:MtM X "list.pop" rPop:=by
 intro pj s σ H x vs v us Q I rx rv h
 obtain⟨l,xs,y,rfl,rfl,hH,hy,q⟩:=h
 cases rx
 have hus:=rv.zero
 subst hus
 obtain⟨z,its,n,r,hl,e⟩:=I.lstM hH
 obtain⟨u,hu,ru⟩:=r.get hy
 have hy':its.toArray[its.toArray.size-1]?=Za u:=by
  show its.toArray[its.length-1]?=Za u
  rw[<- ZdQ,<-hl]
  exact hu
 refine Zdl F.slot_list_pop ⟨_,e,rfl⟩ F.entry_list_pop (F.args_list_pop_1 _) (MeetsSeq.list_pop_last l its.toArray n u hy' (by rw[Zu];omega)) ⟨e,?_⟩
 refine⟨y,_,I.lset (its':=its.dropLast) hH e ?_ r.dropLast ?_,ru,q⟩
 ·show its.toArray.eraseIdxIfInBounds (its.toArray.size-1)=its.dropLast.toArray
  rw[Zu,ZcE,Jps]
 ·rw[List.length_dropLast]
  omega
def rCat:R2:=λ x y H Q=>∃l b xs zs,x=.ref l/\y=.ref b/\H l=Za (.lst xs)/\H b=Za (.lst zs)/\xs.length+zs.length<=sizeLine/\∀p,H p=Zc->Q (.ref p) (upd H p (.lst (xs++zs)))
theorem J1g:OpR X (ZaQ .Add) rCat:=by
 intro pj s σ H x y v u Q I rx ry h
 obtain⟨l,b,xs,zs,rfl,rfl,hH,hB,hz,q⟩:=h
 cases rx
 cases ry
 obtain⟨z,its,n,r,hl,e⟩:=I.lstM hH
 obtain⟨z2,its2,n2,r2,hl2,e2⟩:=I.lstM hB
 refine PySem.P.add_list e e2 ?_ (by rw[Zu,Zu];omega)
 have ea:its.toArray++its2.toArray=(its++its2).toArray:=by simp
 rw[ea]
 exact⟨.ref _,_,I.lnew (t':=s.toks) (r.append r2) (by rw[Zt];omega),rfl,q _ I.fresh⟩
def rRep:R2:=λ x y H Q=>∃l k xs,x=.ref l/\y=.int k/\H l=Za (.lst xs)/\ -(2^63)<=k/\k<2^63/\xs.length*k.toNat<=sizeLine /\
 ∀p,H p=Zc->Q (.ref p) (upd H p (.lst (ZS k.toNat xs).flatten))
theorem Jyf {α:Type}(xs:List α)(k:Nat):(ZS k xs).flatten.length=k*xs.length:=by
 induction k with
 | zero=>simp
 | succ k ih=>rw[ZaX,Zb4,Zt,ih,Nat.succ_mul,Nat.add_comm]
theorem J1j:OpR X (ZaQ .Mult) rRep:=by
 intro pj s σ H x y v u Q I rx ry h
 obtain⟨l,k,xs,rfl,rfl,hH,h1,h2,hz,q⟩:=h
 cases rx
 obtain⟨t,rfl⟩:=ry
 obtain⟨z,its,n,r,hl,e⟩:=I.lstM hH
 have hlen:its.toArray.size*k.toNat<=sizeLine:=by rw[Zu,<-hl];exact hz
 have hcap:¬its.toArray.size*k.toNat>(2^63-1)/8:=by
  have:(sizeLine:Nat)<=(2^63-1)/8:=by decide
  omega
 have hfit:¬(!Builtin.List.listFitsIndex k)=Zg:=by
  rw[fitsIndex_both h1 h2]
  exact Zs
 have hlong:¬Zb8 (its.toArray.size*k.toNat)=Zg:=by
  rw[Jol hlen]
  exact Zs
 have hnew:List.foldl (λ x1 x2=>x1++x2) #[] (ZS (if its.toArray.isEmpty=Zg then 0 else k.toNat) its.toArray)=(ZS k.toNat its).flatten.toArray:=by
  have f0:∀m:Nat,List.foldl (λ x1 x2=>x1++x2) #[] (ZS m its.toArray)=(ZS m its).flatten.toArray:=λ m=>by
   have:=Jli its m []
   rw[Zag] at this
   exact this
  rw[f0]
  cases its with
  | nil=>simp
  | cons a r'=>rw[if_neg (by simp)]
 refine wpAny_binaryOp_repeat_ref (T:="list") (U:="int") (by decide) ⟨_,e,rfl⟩ (λ s'=>typeIs_int s' k t) noFill_list_mul F.fills_int_mul F.slot_int_rmul repeat_list F.slot_int_index.lookup
  (Zdl F.slot_int_rmul (typeIs_int s k t) F.entry_int_rmul (F.args_int_rmul_2 _ _) (int___rmul___int_list k t l its.toArray n)
   ⟨e,rfl,⟨_,e,rfl⟩,Zdl F.slot_list_mul ⟨_,e,rfl⟩ F.entry_list_mul (F.args_list_mul_2 _ _) (AutoListH.list___mul___list_int_3 l its.toArray n k t hfit hcap hlong) ⟨e,?_⟩⟩)
 rw[hnew]
 exact⟨.ref _,_,I.lnew (t':=s.toks) (r.rep k.toNat) (by rw[Jyf,Nat.mul_comm];exact hz),rfl,q _ I.fresh⟩
end
section
variable {prog:ZA}{w:ZW}{A:ZO}{E:QvT}{s:Zl}
end
section
variable {X:Cx}
end
section
variable {κ:Type}[DecidableEq κ]
def valV (kvs:List (κ×V))(k:κ):Option V:=(kvs.find? λ kv=>decide (kv.1=k)).map (·.2)
def putK (kvs:List (κ×V))(k:κ)(v:V):List (κ×V) :=
 if (kvs.any λ kv=>decide (kv.1=k))=Zg then kvs.map (λ kv=>if kv.1=k then(kv.1,v) else kv) else kvs++[(k,v)]
theorem Jkp {p:κ×V}{r:List (κ×V)}{k:κ}(e:p.1=k):valV (p::r) k=Za p.2:=by simp[valV,ZbO,e]
theorem Jko {p:κ×V}{r:List (κ×V)}{k:κ}(e:¬p.1=k):valV (p::r) k=valV r k:=by simp[valV,ZbO,e]
theorem Jkn (k:κ):∀kvs:List (κ×V),(kvs.any λ kv=>decide (kv.1=k))=(valV kvs k).isSome
 | []=>rfl
 | p::r=>by
  rw[Zch]
  by_cases e:p.1=k
  ·simp only[Jkp e,decide_eq_true e,Bool.true_or,Option.isSome_some]
  ·rw[Jko e,decide_eq_false e,Bool.false_or];exact Jkn k r
theorem Jng (kvs:List (κ×V))(k:κ)(v:V):(putK kvs k v).length<=kvs.length+1:=by
 unfold putK
 split
 ·rw[Zi];omega
 ·rw[Zt,ZB,ZaM];omega
theorem Jka {kvs:List (κ×V)}{k:κ}(v:V)(h:valV kvs k=Zc):putK kvs k v=kvs++[(k,v)]:=by
 unfold putK
 rw[Jkn,h]
 exact if_neg (by decide)
theorem RelO.isSome_eq {o:Option V}{u:Option Ze}(r:RelO o u):o.isSome=u.isSome:=by
 cases o with
 | none=>cases u with
  | none=>rfl
  | some _=>exact Zf r
 | some _=>cases u with
  | none=>exact Zf r
  | some _=>rfl
theorem KV.val {kvs:List (κ×V)}{vs:List (κ×Ze)}(r:KV kvs vs)(k:κ):RelO (valV kvs k) (Zey vs k):=by
 unfold KV at r
 induction r with
 | nil=>exact Zaq
 | @cons p q ps qs h t ih =>
  obtain⟨h1,h2⟩:=h
  by_cases e:p.1=k
  ·have e':q.1=k:=h1.symm.trans e
   have b:Zey (q::qs) k=Za q.2:=by simp[Zey,ZbO,e']
   rw[Jkp e,b];exact h2
  ·have e':¬q.1=k:=λ z=>e (h1.trans z)
   have b:Zey (q::qs) k=Zey qs k:=by simp[Zey,ZbO,e']
   rw[Jko e,b];exact ih
theorem KV.any {kvs:List (κ×V)}{vs:List (κ×Ze)}(r:KV kvs vs)(k:κ):(kvs.any λ kv=>decide (kv.1=k))=vs.any λ kv=>decide (kv.1=k):=by
 unfold KV at r
 induction r with
 | nil=>rfl
 | cons h t ih=>rw[Zch,Zch,ih,h.1]
theorem KV.repl {kvs:List (κ×V)}{vs:List (κ×Ze)}(r:KV kvs vs)(k:κ){y:V}{u:Ze}(ry:RelV y u) :
  KV (kvs.map λ kv=>if kv.1=k then(kv.1,y) else kv) (vs.map λ kv=>if kv.1=k then(kv.1,u) else kv):=by
 unfold KV at r ⊢
 induction r with
 | nil=>exact .nil
 | @cons p q ps qs h t ih =>
  rw[Z4,Z4]
  refine .cons ?_ ih
  obtain⟨h1,h2⟩:=h
  by_cases e:p.1=k
  ·rw[if_pos e,if_pos (h1.symm.trans e)];exact⟨h1,ry⟩
  ·rw[if_neg e,if_neg (λ z=>e (h1.trans z))];exact⟨h1,h2⟩
theorem KV.put {kvs:List (κ×V)}{vs:List (κ×Ze)}(r:KV kvs vs)(k:κ){y:V}{u:Ze}(ry:RelV y u):KV (putK kvs k y) (stored vs k u):=by
 unfold putK stored
 rw[r.any k]
 by_cases e:(vs.any λ kv=>decide (kv.1=k))=Zg
 ·rw[if_pos e,if_pos e];exact r.repl k ry
 ·rw[if_neg e,if_neg e];exact Paired.snoc r ⟨rfl,ry⟩
theorem KV.length {kvs:List (κ×V)}{vs:List (κ×Ze)}(r:KV kvs vs):kvs.length=vs.length:=Zeh r
end
theorem Jui {P:ZA}{w:ZW}{k:Key}{u:Ze}(r:RelV (kV k) u):(Vp P w).is k u=Zg:=by
 cases k with
 | inl i=>obtain⟨t,e⟩:=(show ∃t,u=ZbQ i t from r);subst e;exact Jnk P w i t
 | inr x=>obtain⟨t,e⟩:=(show ∃t,u=Zec x t from r);subst e;exact Jnl P w x t
section
variable {P:ZA}{w:ZW}{H:Hp}{h:Zas}{a:Zm}
theorem J33 {u:HO}(ok:HOk P w H h)(e:Rd H a u):JM P w H h a u:=e.ok ok
theorem Jz3 {kvs:List (Key×V)}(ok:HOk P w H h)(e:Rd H a (.dK kvs)):kvs.length<=sizeLine/\(a==Zcr)=Zj/\∃vs,KV kvs vs/\h.DictOf (Vp P w) a vs :=
 show JM P w H h a (.dK kvs) from J33 ok e
theorem Jtv {kvs:List (Key×V)}(ok:HOk P w H h)(e:H a=Za (.dK kvs)):kvs.length<=sizeLine/\(a==Zcr)=Zj/\∃vs,KV kvs vs/\h.DictOf (Vp P w) a vs:=Jz3 ok (.inl e)
end
section
variable {X:Cx}{pj:PnT}{σ:St}{H:Hp}{s:Zl}{a:Zm}{y v:V}{u r:Ze}{o:Option V}{A:ZO}{E:QvT}
theorem Inv.big (I:Inv X pj σ H s):Zcr<s.heap.objs.size:=by
 have h:Zz<s.heap.objs.size:=(I.mod.glob.keeps I.bk).lt
 exact Nat.lt_trans (by decide) h
theorem Jrb {h':Zas}{t':Nat}{ob:HO}(I:Inv X pj σ H s)(mu:Mut (H a))(hs:Zc3 a s.heap h')(he:∃q,h'.get? a=Za q)(new:JM X.prog X.w (upd H a ob) h' a ob) :
  Inv X pj σ (upd H a ob) { s with heap:=h',toks:=t' } :=
 I.write (x:=a) (e:=a) mu (.inl rfl) (λ b q hb z=>(hs.2 b hb).trans z) he new
theorem Jv9 {P:ZA}{w:ZW}{H':Hp}{h':Zas}{kvs:List (Key×V)}{vs:List (Key×Ze)}(z:kvs.length<=sizeLine)(hd:(a==Zcr)=Zj)(rel:KV kvs vs)(dd:h'.DictOf (Vp P w) a vs) :
  JM P w H' h' a (.dK kvs):=⟨z,hd,vs,rel,dd⟩
end
section
variable {X:Cx}{pj:PnT}{σ:St}{H:Hp}{s:Zl}{a:Zm}{kvs:List (Key×V)}{k:Key}{u:Ze}{A:ZO}{E:QvT}
theorem J2x {Q:QvT}(I:Inv X pj σ H s)(e:Rd H a (.dK kvs))(h:∀t s',Inv X pj σ H s'->Q (.int kvs.length t) s'):Zx (Z8 X.prog X.w) A (call (.builtin "len") [.ref a]) Q E s:=by
 obtain⟨z,hd,vs,rel,dd⟩:=Jz3 I.hok e
 refine call_len_dict hd dd (by rw[<- rel.length];rw[ZaY] at z;omega) ?_
 rw[<- rel.length]
 exact h _ _ (I.tok _)
end
section
variable {X:Cx}{o i e value:Expr}{pos pos' tpos:Pos}{td ty tv:TE}
end
theorem Jtu {P:ZA}{w:ZW}{H:Hp}(h:Zas)(hb:Zcr<h.objs.size):JM P w H (h.push { cls:=.type "dict",data:=.dict #[] }) h.objs.size (.dK []) :=
 ⟨ZX _,beq_eq_false_iff_ne.mpr (ZQ (Z5 hb)),[],.nil,Heap.DictOf.new h⟩
section
variable {X:Cx}{pos:Pos}
end
section
variable {X:Cx}{pj:PnT}{σ:St}{H:Hp}{s:Zl}{a:Zm}{y d:V}{u r:Ze}{o:Option V}{A:ZO}{E:QvT}
end
section
variable {X:Cx}{o e f:Expr}{apos cpos:Pos}{td ty tx:TE}
end
section
variable {X:Cx}{pj:PnT}{σ:St}{H:Hp}{s:Zl}{a:Zm}{kvs:List (Key×V)}{A:ZO}{E:QvT}
end
end L2
namespace Att
open PySem PySem.W PySem.Calls PyProof.Rows
theorem Jhx {P:Params}{h:Zas}:∀(ns:List Int)(vs:List Ze),WellAll P h vs (ns.map WData.int)->ZbA vs ns:=by
 intro ns
 induction ns with
 | nil =>
  intro vs w
  rw[Za6] at w
  cases w
  exact .nil
 | cons n ns ih =>
  intro vs w
  rw[Z4] at w
  cases w with
  | cons a b =>
   cases a
   exact .cons _ _ (ih _ b)
theorem Jsy {l:OpenLaw}{n:Nat}(hn:l.most=Za n){P:Params}{h:Zas}{args:List WData}{vals:List Ze}
  (hpre:l.row.toRowW.claim.pre args=Zg)(hwl:WellAll P h vals args) :
  ∃a vs ns,vals=[Zdf a]/\args=[WData.list (ns.map WData.int)]/\h.get? a=Za { cls:=.type "list",data:=.seq vs.toArray }/\ZbA vs ns/\ns.length<=n:=by
 have hsh:WShape.hasAll [] args [.list .int]=Zg:=(pre_splitW hpre).1
 have hc:l.pre.holds [] { args:=args }=Zg:=(pre_splitW hpre).2
 obtain⟨d,r,rfl,h1,h2⟩:=hasAllW_cons hsh
 obtain rfl:=hasAllW_nil h2
 obtain⟨xs,rfl,h3⟩:=hasW_list h1
 obtain⟨ns,rfl⟩:=items_int h3
 have hlen:ns.length<=n:=by
  unfold OpenLaw.pre at hc
  have h4:(WTm.not (.lt (.lit (.int (n:Int))) (.len (.arg 0)))).holds [] { args:=[.list (ns.map .int)] }=Zg:=by
   have h4:=(holds_andW hc).1
   rw[hn] at h4
   exact h4
  have h5:=condW_of h4 (w_not (w_lt w_lit (w_len_list (w_arg rfl))))
  rw[Zi] at h5
  refine ZcL λ q=>?_
  have q':(n:Int)<((ns.length:Nat):Int):=by omega
  first
   | (rw[decide_eq_true q'] at h5;exact absurd h5 (by decide))
   | (simp at h5;omega)
 cases hwl with
 | cons w1 w2 =>
  cases w2
  cases w1 with
  | list ho hall=>exact⟨_,_,ns,rfl,rfl,ho,Jhx ns _ hall,hlen⟩
theorem Jso (l:OpenLaw)(args:List WData):l.row.toRowW.claim.post args (.bool Zg) args=Zg :=
 postW_of (r:=l.row.toRowW) (X:=(Zg==Zg))
  (show WShape.has [] (.bool Zg) .bool=Zg by first|rfl|decide|simp[WShape.has,WShape.arms,WShape.armsAll])
  (show(WTm.eq .res (.lit (.bool Zg))).value [] { args:=args,res:=Za (.bool Zg),after:=args }=Za (.bool (Zg==Zg)) from w_eq_bool (w_res rfl) w_lit) rfl
theorem attach_call {l:OpenLaw}{n:Nat}{q:ZA}{loose:List Str}{XP:(Str->Option Ze)->Zas->Prop}{YP:ZW->Zas->Prop}{d:DefRec}
  (hn:l.most=Za n)(hdf:d.params.defaults=[])
  (call:∀(w:ZW)(s₀ s₁:Zl)(mg mb:Str->Option Ze)(fa:Zm)(o:Obj)(pm cd doc:Ze)(a:Zm)(vs:List Ze)(ns:List Int),
   Ground q loose [] XP w s₀ mg mb s₁.heap->YP w s₁.heap ->
   s₁.heap.get? fa=Za o->o.data=.func (docDef d.name d.params d.body d.scope pm cd doc)->s₁.heap.CodeRec cd d.name->mg d.name=Za (.ref fa) ->
   s₁.heap.get? a=Za { cls:=.type "list",data:=.seq vs.toArray }->ZbA vs ns->ns.length<=n->s₁.gens=#[] ->
   Zc4 (Z8 l.prog w) Zee (.call (.ref fa) ⟨[.ref a],[]⟩) (λ r s'=>r=.ok (.ret (.bool Zg))/\OldK s₁.heap s'.heap/\s'.os=s₁.os/\Zdc s'.gens) s₁) :
  WalkO q loose XP YP l.row.toRowW d [] (λ f vs=>PySem.call f vs):=by
 intro w s₀ s₁ mg mb G Y fa o pm cd doc dV kV ho hd hcd hD hmg hg args vals as hpre hlay hrd hwl hlo
 obtain rfl:dV=.none:=Dflts.none hD hdf
 obtain rfl:kV=.none:=Dflts.noKw hD
 obtain⟨a,vs,ns,rfl,rfl,hobj,hints,hlen⟩:=Jsy hn hpre hwl
 refine enter_call (Zc9 (call w s₀ s₁ mg mb fa o pm cd doc a vs ns G Y ho (fd_plain hd) hcd hmg hobj hints hlen hg) λ r s' hq=>?_)
 obtain⟨rfl,h2,h3,h4⟩:=hq
 exact⟨.inl ⟨.bool Zg,.bool Zg,[],rfl,λ _=>rfl,.bool Zg,Jso l _,λ _=>⟨List.Pairwise.nil,λ _ hm=>(nomatch hm)⟩⟩,h2,h3,h4⟩
section
variable {prog:ZA}{w:ZW}{A:ZO}{E:QvT}{s:Zl}{K:Frag}
end
end Att
namespace L2
open PySem PySem.Spec PyProof.Rows
theorem XY:∀{vs:List Ze}{ns:List Int},ZbA vs ns->Vals (ns.map V.int) vs
 | _,_,.nil=>.nil
 | _,_,.cons n t h=>.cons ⟨t,rfl⟩ (XY h)
noncomputable def JO (s:Zdi)(j:Nat):Zdi:=match s with
 | .ClassDef _ _ _ body _ _ _ _ _ _ _=>body.getD j (.Pass ⟨0,0,0,0⟩)
 | _=>.Pass ⟨0,0,0,0⟩
def QU (s:Zdi):Zca:=match s with
 | .FunctionDef _ a _ _ _ _ _ _ _ _=>a
 | _=>{ posonlyargs:=[],args:=[],vararg:=Zc,kwonlyargs:=[],kw_defaults:=[],kwarg:=Zc,defaults:=[] }
def Qw (s:Zdi):List Zdi:=match s with
 | .FunctionDef _ _ b _ _ _ _ _ _ _=>b
 | _=>[]
def JV (s:Zdi):Zbi:=match s with
 | .FunctionDef _ _ _ _ _ _ sc _ _ _=>sc
 | _=>{ kind:=.function,names:=[],isGenerator:=Zj,isCoroutine:=Zj }
section
variable {P:ZA}{w:ZW}{K:W.Frag}{mg:Str->Option Ze}{base:Zas}
end
section
variable {X:Cx}
end
end L2
set_option maxHeartbeats 4000000
namespace L3
open PySem PySem.Spec PyProof.Rows L2
inductive IV where
 | non|bl (b:Bool)|int (i:Int)|str (x:Str)|tup (xs:List IV)|rol (xs:List IV)|ref (i:Nat)
inductive IX where
 | lst (xs:List IV)
 | ins (c:Str) (fs:List (Str×IV))
 | dct (kvs:List (Key×IV))
 | exc (c:Str) (fs:List (Str×IV))
 | tab (q:Str)
 | hld (c:Str) (fs:List (Str×IV))
abbrev IH:=List IX
abbrev ISt:=List (Option IV)
inductive Res (α:Type) where
 | ok (a:α) (h:IH)|exc (n:Nat) (h:IH)|stuck
noncomputable def Res.bind {α β:Type}:Res α->(α->IH->Res β)->Res β
 | .ok a h,f=>f a h
 | .exc n h,_=>.exc n h
 | .stuck,_=>.stuck
inductive SRes where
 | next (σ:ISt) (h:IH)|ret (v:IV) (h:IH)|brk (σ:ISt) (h:IH)|cont (σ:ISt) (h:IH)|exc (n:Nat) (σ:ISt) (h:IH)|stuck
def SqR (K:W.Frag)(H:Hp)(a:Zm)(xs:List V):Prop :=
 (∃o,H a=Za (.frz o (.lst xs))) ∨
  ∃(o:Obj) (its:Array Ze) (n:Nat),K.lookup a=Za o/\o.cls=.type "list"/\o.dict=Zc/\o.data=.seq its n/\its.size<=sizeLine/\Vals xs its.toList
theorem SqR.sq {K:W.Frag}{H:Hp}{a:Zm}{xs:List V}(h:SqR K H a xs):SqL K H a xs:=by
 rcases h with⟨o,h⟩|h
 ·exact .inl (.inr ⟨o,h⟩)
 ·exact .inr h
mutual
def RV (K:W.Frag)(ι:List Zm)(H:Hp):IV->V->Prop
 | .non,v=>v=.non
 | .bl b,v=>v=.bl b
 | .int i,v=>v=.int i
 | .str x,v=>v=.str x
 | .tup xs,v=>∃a vs,v=.ref a/\SqT K H a vs/\RVs K ι H xs vs
 | .rol xs,v=>∃a vs,v=.ref a/\SqR K H a vs/\RVs K ι H xs vs
 | .ref i,v=>∃a,v=.ref a/\ι[i]?=Za a
def RVs (K:W.Frag)(ι:List Zm)(H:Hp):List IV->List V->Prop
 | [],vs=>vs=[]
 | x::xs,vs=>∃v r,vs=v::r/\RV K ι H x v/\RVs K ι H xs r
end
structure Ext (H H':Hp):Prop where
 tups:∀b xs,H b=Za (.tup xs)->H' b=Za (.tup xs)
 frzs:∀b o u,H b=Za (.frz o u)->H' b=Za (.frz o u)
structure Nxt (ι:List Zm)(H:Hp)(ι':List Zm)(H':Hp):Prop where
 pre:∃m,ι'=ι++m
 ext:Ext H H'
theorem Nxt.refl:Nxt ι H ι H:=⟨⟨[],by simp⟩,⟨λ _ _ h=>h,λ _ _ _ h=>h⟩⟩
theorem Nxt.trans (a:Nxt ι H ι1 H1)(b:Nxt ι1 H1 ι2 H2):Nxt ι H ι2 H2:=by
 obtain⟨⟨m,e⟩,x⟩:=a
 obtain⟨⟨m',e'⟩,y⟩:=b
 exact⟨⟨m++m',by rw[e',e,ZZ]⟩,⟨λ b xs h=>y.tups b xs (x.tups b xs h),λ b o u h=>y.frzs b o u (x.frzs b o u h)⟩⟩
theorem Nxt.at (n:Nxt ι H ι' H'){i:Nat}(h:ι[i]?=Za a):ι'[i]?=Za a:=by
 obtain⟨⟨m,e⟩,_⟩:=n
 subst e
 rw[ZE (Zr.mp h).1]
 exact h
theorem Ext.rd (x:Ext H H')(h:Rd H a (.tup xs)):Rd H' a (.tup xs):=by
 rcases h with h|⟨o,h⟩
 ·exact .inl (x.tups _ _ h)
 ·exact .inr ⟨o,x.frzs _ _ _ h⟩
theorem Ext.sqT {K:W.Frag}{H H':Hp}(x:Ext H H'){a:Zm}{xs:List V}(h:SqT K H a xs):SqT K H' a xs:=by
 rcases h with h|h
 ·exact .inl (x.rd h)
 ·exact .inr h
theorem Ext.sqR {K:W.Frag}{H H':Hp}(x:Ext H H'){a:Zm}{xs:List V}(h:SqR K H a xs):SqR K H' a xs:=by
 rcases h with⟨o,h⟩|h
 ·exact .inl ⟨o,x.frzs _ _ _ h⟩
 ·exact .inr h
mutual
theorem RV.mono {K:W.Frag}{ι ι':List Zm}{H H':Hp}(n:Nxt ι H ι' H'):∀(x:IV)(v:V),RV K ι H x v->RV K ι' H' x v
 | .non,_,h=>h
 | .bl _,_,h=>h
 | .int _,_,h=>h
 | .str _,_,h=>h
 | .tup xs,_,h=>by
  obtain⟨a,vs,e,q,r⟩:=h
  exact⟨a,vs,e,n.ext.sqT q,RVs.mono n xs vs r⟩
 | .rol xs,_,h=>by
  obtain⟨a,vs,e,q,r⟩:=h
  exact⟨a,vs,e,n.ext.sqR q,RVs.mono n xs vs r⟩
 | .ref i,_,h=>by
  obtain⟨a,e,q⟩:=h
  exact⟨a,e,n.at q⟩
theorem RVs.mono {K:W.Frag}{ι ι':List Zm}{H H':Hp}(n:Nxt ι H ι' H'):∀(xs:List IV)(vs:List V),RVs K ι H xs vs->RVs K ι' H' xs vs
 | [],_,h=>h
 | x::xs,_,h=>by
  obtain⟨v,r,e,q,t⟩:=h
  exact⟨v,r,e,RV.mono n x v q,RVs.mono n xs r t⟩
end
theorem RVs.length {K:W.Frag}{ι:List Zm}{H:Hp}:∀{xs:List IV}{vs:List V},RVs K ι H xs vs->vs.length=xs.length
 | [],_,h=>by
  have e:_=[]:=h
  subst e
  rfl
 | x::xs,_,h=>by
  obtain⟨v,r,e,_,t⟩:=h
  subst e
  simp[RVs.length t]
theorem RVs.get {K:W.Frag}{ι:List Zm}{H:Hp}:∀{xs:List IV}{vs:List V}{i:Nat}{x:IV},RVs K ι H xs vs->xs[i]?=Za x->∃v,vs[i]?=Za v/\RV K ι H x v
 | [],_,_,_,_,e=>by simp at e
 | x::xs,_,0,y,h,e=>by
  obtain⟨v,r,e1,q,t⟩:=h
  subst e1
  simp at e
  subst e
  exact⟨v,rfl,q⟩
 | x::xs,_,i+1,y,h,e=>by
  obtain⟨v,r,e1,q,t⟩:=h
  subst e1
  obtain⟨u,h1,h2⟩:=RVs.get (i:=i) (x:=y) t (by simpa using e)
  exact⟨u,by simpa using h1,h2⟩
theorem RVs.get' {K:W.Frag}{ι:List Zm}{H:Hp}{xs:List IV}{vs:List V}{i:Nat}{v:V}(h:RVs K ι H xs vs)(e:vs[i]?=Za v):∃x,xs[i]?=Za x/\RV K ι H x v:=by
 have hl:=h.length
 have hi:i<vs.length:=(Zr.mp e).1
 have hx:xs[i]?=Za xs[i]:=Zb (by omega)
 obtain⟨u,h1,h2⟩:=h.get hx
 rw[e] at h1
 cases h1
 exact⟨_,hx,h2⟩
theorem RVs.append {K:W.Frag}{ι:List Zm}{H:Hp}:∀{xs ys:List IV}{vs us:List V},RVs K ι H xs vs->RVs K ι H ys us->RVs K ι H (xs++ys) (vs++us)
 | [],_,_,_,h,g=>by
  have e:_=[]:=h
  subst e
  exact g
 | x::xs,_,_,_,h,g=>by
  obtain⟨v,r,e,q,t⟩:=h
  subst e
  exact⟨v,_,rfl,q,RVs.append t g⟩
theorem RVs.take {K:W.Frag}{ι:List Zm}{H:Hp}:∀{xs:List IV}{vs:List V}(n:Nat),RVs K ι H xs vs->RVs K ι H (xs.take n) (vs.take n)
 | _,_,0,_=>by simp;exact rfl
 | [],_,n+1,h=>by
  have e:_=[]:=h
  subst e
  exact rfl
 | x::xs,_,n+1,h=>by
  obtain⟨v,r,e,q,t⟩:=h
  subst e
  exact⟨v,r.take n,rfl,q,RVs.take n t⟩
theorem RVs.drop {K:W.Frag}{ι:List Zm}{H:Hp}:∀{xs:List IV}{vs:List V}(n:Nat),RVs K ι H xs vs->RVs K ι H (xs.drop n) (vs.drop n)
 | _,_,0,h=>h
 | [],_,n+1,h=>by
  have e:_=[]:=h
  subst e
  exact rfl
 | x::xs,_,n+1,h=>by
  obtain⟨v,r,e,q,t⟩:=h
  subst e
  exact RVs.drop n t
theorem RVs.set {K:W.Frag}{ι:List Zm}{H:Hp}{x:IV}{v:V}(q:RV K ι H x v):∀{xs:List IV}{vs:List V}(i:Nat),RVs K ι H xs vs->RVs K ι H (xs.set i x) (vs.set i v)
 | [],_,_,h=>by
  have e:_=[]:=h
  subst e
  exact rfl
 | y::xs,_,0,h=>by
  obtain⟨u,r,e,_,t⟩:=h
  subst e
  exact⟨v,r,rfl,q,t⟩
 | y::xs,_,i+1,h=>by
  obtain⟨u,r,e,p,t⟩:=h
  subst e
  exact⟨u,r.set i v,rfl,p,RVs.set q i t⟩
theorem RVs.one {K:W.Frag}{ι:List Zm}{H:Hp}{x:IV}{v:V}(q:RV K ι H x v):RVs K ι H [x] [v]:=⟨v,[],rfl,q,rfl⟩
theorem RVs.rev {K:W.Frag}{ι:List Zm}{H:Hp}:∀{xs:List IV}{vs:List V},RVs K ι H xs vs->RVs K ι H xs.reverse vs.reverse
 | [],_,h=>by
  have e:_=[]:=h
  subst e
  exact rfl
 | x::xs,_,h=>by
  obtain⟨v,r,e,q,t⟩:=h
  subst e
  rw[Zb3,Zb3]
  exact RVs.append (RVs.rev t) (RVs.one q)
theorem RVs.ints {K:W.Frag}{ι:List Zm}{H:Hp}:∀(ns:List Int),RVs K ι H (ns.map IV.int) (ns.map V.int)
 | []=>rfl
 | _::ns=>⟨_,_,rfl,rfl,RVs.ints ns⟩
def RPs {κ:Type}(K:W.Frag)(ι:List Zm)(H:Hp):List (κ×IV)->List (κ×V)->Prop
 | [],vs=>vs=[]
 | x::xs,vs=>∃v r,vs=(x.1,v)::r/\RV K ι H x.2 v/\RPs K ι H xs r
theorem RPs.mono {κ:Type}{K:W.Frag}{ι ι':List Zm}{H H':Hp}(n:Nxt ι H ι' H'):∀(xs:List (κ×IV))(vs:List (κ×V)),RPs K ι H xs vs->RPs K ι' H' xs vs
 | [],_,h=>h
 | x::xs,_,h=>by
  obtain⟨v,r,e,q,t⟩:=h
  exact⟨v,r,e,RV.mono n _ v q,RPs.mono n xs r t⟩
theorem RPs.length {κ:Type}{K:W.Frag}{ι:List Zm}{H:Hp}:∀{xs:List (κ×IV)}{vs:List (κ×V)},RPs K ι H xs vs->vs.length=xs.length
 | [],_,h=>by
  have e:_=[]:=h
  subst e
  rfl
 | x::xs,_,h=>by
  obtain⟨v,r,e,_,t⟩:=h
  subst e
  simp[RPs.length t]
theorem RPs.lookup {κ:Type}[BEq κ]{K:W.Frag}{ι:List Zm}{H:Hp}{f:κ}:∀{xs:List (κ×IV)}{vs:List (κ×V)},RPs K ι H xs vs ->
  (∀x,xs.lookup f=Za x->∃v,vs.lookup f=Za v/\RV K ι H x v)/\(xs.lookup f=Zc->vs.lookup f=Zc)
 | [],_,h=>by
  have e:_=[]:=h
  subst e
  exact⟨λ x e=>by simp at e,λ _=>rfl⟩
 | (k,x)::xs,_,h=>by
  obtain⟨v,r,e,q,t⟩:=h
  subst e
  have ih:=RPs.lookup (f:=f) t
  simp only[Zae]
  cases hb:f==k with
  | true=>exact⟨λ y e=>by cases e;exact⟨v,rfl,q⟩,λ e=>by cases e⟩
  | false=>exact ih
def QQ (H:Hp)(q:Str)(cv:Ze):Prop:=∃c oc vs t,cv=.ref c/\H c=Za (.frz oc (.own 0))/\oc.data=.fields vs/\vs[1]?=Za (.str (q++".<locals>."++"<lambda>") t)
def TabO (K:W.Frag)(H:Hp)(q:Str)(a:Zm):Prop:=(∀cdv,W.codeIn K cdv q=Zg->∃c,cdv=.ref c/\W.codeHdIn K c a=Zg) /\
 ∃ps,H a=Za (.tbl ps)/\TriplesOk ps.toList/\∀pos cv,Zd4 pos ps.toList=Za cv->QQ H q cv
theorem TabO.mono {K:W.Frag}{H H':Hp}{q:Str}{a:Zm}(fz:∀b o u,H b=Za (.frz o u)->H' b=Za (.frz o u))(k:∀u,H a=Za u->H' a=Za u)(h:TabO K H q a):TabO K H' q a:=by
 obtain⟨h1,ps,e,ht,hc⟩:=h
 refine⟨h1,ps,k _ e,ht,λ pos cv q=>?_⟩
 obtain⟨c,oc,vs,t,e1,e2,r⟩:=hc pos cv q
 exact⟨c,oc,vs,t,e1,fz _ _ _ e2,r⟩
def ExF (a C:Zm)(tv:Ze)(d:Option Zm):HO:=.ext λ h=>∃oe vs,h.get? a=Za oe/\oe.cls=.ref C/\oe.data=.fields vs/\vs[1]?=Za tv/\vs[2]?=Za .none/\oe.dict=d
def XdOk (H:Hp)(d:Option Zm)(fs:List (Str×IV)):Prop:=(fs=[]/\d=Zc)∨∃f i dx od t,fs=[(f,.int i)]/\d=Za dx/\H dx=Za (.frz od (.own 0))/\W.lookIn f od=Za (Za (.int i t))
theorem XdOk.mono (fz:∀b o u,H b=Za (.frz o u)->H' b=Za (.frz o u))(h:XdOk H d fs):XdOk H' d fs:=by
 rcases h with h|⟨f,i,dx,od,t,e,q,r,z⟩
 ·exact .inl h
 ·exact .inr ⟨f,i,dx,od,t,e,q,fz _ _ _ r,z⟩
def TvOk (H:Hp)(tv:Ze):Prop:=tv=.none∨∃T oT ts,tv=.ref T/\H T=Za (.frz oT (.own 0))/\oT.data=.fields ts/\ts[3]?=Za .none
theorem TvOk.mono (fz:∀b o u,H b=Za (.frz o u)->H' b=Za (.frz o u))(h:TvOk H tv):TvOk H' tv:=by
 rcases h with h|⟨T,oT,ts,e,q,r⟩
 ·exact .inl h
 ·exact .inr ⟨T,oT,ts,e,fz _ _ _ q,r⟩
def RO (ce:CeT)(K:W.Frag)(ι:List Zm)(H:Hp)(a:Zm):IX->Prop
 | .lst xs=>∃vs,H a=Za (.lst vs)/\RVs K ι H xs vs
 | .ins c fs=>∃C dx vs,ce c=Za C/\H a=Za (.ins C dx vs)/\RPs K ι H fs vs
 | .dct kvs=>∃vs,H a=Za (.dK vs)/\RPs K ι H kvs vs
 | .exc c fs=>∃C tv d,XdOk H d fs/\W.nsIn K Zz c=Za (Za (.ref C))/\H a=Za (ExF a C tv d)/\TvOk H tv
 | .tab q=>TabO K H q a
 | .hld c fs=>∃C oe u vs,XdOk H oe.dict fs/\W.nsIn K Zz c=Za (Za (.ref C))/\H a=Za (.frz oe u)/\oe.cls=.ref C/\oe.data=.fields vs/\vs[2]?=Za .none
theorem RO.some {ce:CeT}{K:W.Frag}{ι:List Zm}{H:Hp}{a:Zm}{o:IX}(h:RO ce K ι H a o):∃u,H a=Za u:=by
 cases o with
 | lst xs=>obtain⟨vs,e,_⟩:=h;exact⟨_,e⟩
 | ins c fs=>obtain⟨_,_,vs,_,e,_⟩:=h;exact⟨_,e⟩
 | dct kvs=>obtain⟨vs,e,_⟩:=h;exact⟨_,e⟩
 | exc c fs=>obtain⟨C,tv,d,_,_,e,_⟩:=h;exact⟨_,e⟩
 | tab q=>obtain⟨_,ps,e,_⟩:=h;exact⟨_,e⟩
 | hld c fs=>obtain⟨_,_,_,_,_,_,e,_⟩:=h;exact⟨_,e⟩
theorem RO.mono {ce:CeT}{K:W.Frag}{ι ι':List Zm}{H H':Hp}{a:Zm}{o:IX}(n:Nxt ι H ι' H')(k:∀u,H a=Za u->H' a=Za u)(h:RO ce K ι H a o):RO ce K ι' H' a o:=by
 cases o with
 | lst xs=>obtain⟨vs,e,r⟩:=h;exact⟨vs,k _ e,RVs.mono n _ _ r⟩
 | ins c fs=>obtain⟨C,dx,vs,c1,e,r⟩:=h;exact⟨C,dx,vs,c1,k _ e,RPs.mono n _ _ r⟩
 | dct kvs=>obtain⟨vs,e,r⟩:=h;exact⟨vs,k _ e,RPs.mono n _ _ r⟩
 | exc c fs=>obtain⟨C,tv,d,e0,c1,e,r⟩:=h;exact⟨C,tv,d,e0.mono n.ext.frzs,c1,k _ e,r.mono n.ext.frzs⟩
 | tab q=>exact TabO.mono n.ext.frzs k h
 | hld c fs=>obtain⟨C,oe,u,vs,e0,c1,e,r⟩:=h;exact⟨C,oe,u,vs,e0.mono n.ext.frzs,c1,k _ e,r⟩
structure Rel (ce:CeT)(K:W.Frag)(ι:List Zm)(h:IH)(H:Hp):Prop where
 len:ι.length=h.length
 nd:ι.Nodup
 at_:∀(i:Nat)(o:IX),h[i]?=Za o->∃a,ι[i]?=Za a/\RO ce K ι H a o
section
variable {ce:CeT}{K:W.Frag}{ι:List Zm}{h:IH}{H:Hp}
theorem Rel.some (R:Rel ce K ι h H){i:Nat}(e:ι[i]?=Za a):∃u,H a=Za u:=by
 have hi:i<h.length:=by rw[<- R.len];exact(Zr.mp e).1
 obtain⟨b,e',r⟩:=R.at_ i _ (Zb hi)
 rw[e] at e'
 cases e'
 exact r.some
theorem Rel.notin (R:Rel ce K ι h H)(e:H l=Zc):l∉ι:=λ hl=>by
 obtain⟨i,hi,q⟩:=Zax.mp hl
 obtain⟨u,hu⟩:=R.some (i:=i) (a:=l) (by rw[Zb hi,q])
 rw[e] at hu
 cases hu
theorem Ext.upd_new (e:H l=Zc):Ext H (upd H l o) :=
 ⟨λ b xs q=>by rw[Jr (Vq q e)];exact q,λ b o u q=>by rw[Jr (Vq q e)];exact q⟩
theorem Rel.grow (R:Rel ce K ι h H)(e:H l=Zc):Rel ce K ι h (upd H l o)/\Nxt ι H ι (upd H l o):=by
 have n:Nxt ι H ι (upd H l o):=⟨⟨[],by simp⟩,Ext.upd_new e⟩
 refine⟨⟨R.len,R.nd,λ i u q=>?_⟩,n⟩
 obtain⟨a,e1,r⟩:=R.at_ i u q
 exact⟨a,e1,r.mono n λ w hw=>by rw[Jr (Vq hw e)];exact hw⟩
theorem Rel.alloc (R:Rel ce K ι h H)(e:H l=Zc)(r:RO ce K (ι++[l]) (upd H l o) l io):Rel ce K (ι++[l]) (h++[io]) (upd H l o)/\Nxt ι H (ι++[l]) (upd H l o):=by
 have n:Nxt ι H (ι++[l]) (upd H l o):=⟨⟨[l],rfl⟩,Ext.upd_new e⟩
 refine⟨⟨by simp[R.len],?_,λ i u q=>?_⟩,n⟩
 ·rw[List.nodup_append]
  refine⟨R.nd,by simp,λ a ha b hb=>?_⟩
  have:b=l:=by simpa using hb
  subst this
  rintro rfl
  exact R.notin e ha
 ·by_cases hi:i<h.length
  ·rw[ZE hi] at q
   obtain⟨a,e1,r1⟩:=R.at_ i u q
   exact⟨a,n.at e1,r1.mono n λ w hw=>by rw[Jr (Vq hw e)];exact hw⟩
  ·have hi2:i=h.length:=by
    have:=(Zr.mp q).1
    simp at this
    omega
   subst hi2
   rw[Z9 (Zo _)] at q
   simp at q
   subst q
   refine⟨l,?_,r⟩
   rw[<- R.len,Z9 (Zo _)]
   simp
theorem Rel.inj (R:Rel ce K ι h H){i j:Nat}(e1:ι[i]?=Za a)(e2:ι[j]?=Za a):i=j:=by
 obtain⟨h1,q1⟩:=Zr.mp e1
 obtain⟨h2,q2⟩:=Zr.mp e2
 exact(ZcI R.nd).mp (q1.trans q2.symm)
theorem Ext.upd_mut (e:H l=Za u)(m:Mut (H l)):Ext H (upd H l o):=by
 refine⟨λ b xs q=>?_,λ b ob w q=>?_⟩
 ·by_cases hb:b=l
  ·subst hb
   rw[q] at m
   exact Zf m
  ·rw[Jr hb];exact q
 ·by_cases hb:b=l
  ·subst hb
   rw[q] at m
   exact Zf m
  ·rw[Jr hb];exact q
theorem Rel.write (R:Rel ce K ι h H)(e:ι[i]?=Za a)(ha:H a=Za u)(m:Mut (H a))(r:RO ce K ι (upd H a o) a io):Rel ce K ι (h.set i io) (upd H a o)/\Nxt ι H ι (upd H a o):=by
 have n:Nxt ι H ι (upd H a o):=⟨⟨[],by simp⟩,Ext.upd_mut ha m⟩
 refine⟨⟨by simp[R.len],R.nd,λ j w q=>?_⟩,n⟩
 by_cases hj:j=i
 ·subst hj
  have hl:j<h.length:=by
   have:=(Zr.mp q).1
   simpa using this
  rw[ZL hl] at q
  cases q
  exact⟨a,e,r⟩
 ·rw[ZI (ZQ hj)] at q
  obtain⟨b,e1,r1⟩:=R.at_ j w q
  refine⟨b,e1,r1.mono n λ v hv=>?_⟩
  have:b≠a:=by
   rintro rfl
   exact hj (R.inj e1 e)
  rw[Jr this]
  exact hv
end
structure RSt (K:W.Frag)(ι:List Zm)(H:Hp)(σi:ISt)(σ:L2.St):Prop where
 len:σi.length=σ.length
 at_:∀(j:Nat)(v:IV),σi[j]?=Za (Za v)->∃u,σ[j]?=Za (Za u)/\RV K ι H v u
theorem RSt.mono {K:W.Frag}{ι ι':List Zm}{H H':Hp}{σi:ISt}{σ:L2.St}(n:Nxt ι H ι' H')(r:RSt K ι H σi σ):RSt K ι' H' σi σ :=
 ⟨r.len,λ j v e=>let ⟨u,e1,q⟩:=r.at_ j v e;⟨u,e1,RV.mono n _ _ q⟩⟩
theorem RSt.set {K:W.Frag}{ι:List Zm}{H:Hp}{σi:ISt}{σ:L2.St}(r:RSt K ι H σi σ)(i:Nat){x:IV}{v:V}(q:RV K ι H x v):RSt K ι H (σi.set i (Za x)) (σ.set i (Za v)):=by
 refine⟨by simp[r.len],λ j w e=>?_⟩
 by_cases hj:j=i
 ·subst hj
  have hl:j<σi.length:=by
   have:=(Zr.mp e).1
   simpa using this
  rw[ZL hl] at e
  cases e
  exact⟨v,by rw[ZL (by rw[<- r.len];exact hl)],q⟩
 ·rw[ZI (ZQ hj)] at e
  obtain⟨u,e1,q1⟩:=r.at_ j w e
  exact⟨u,by rw[ZI (ZQ hj)];exact e1,q1⟩
structure Now (ce:CeT)(X:Cx)(pj:PnT)(ι:List Zm)(σi:ISt)(h:IH)(σ:L2.St)(H:Hp)(s:Zl):Prop where
 inv:Inv X pj σ H s
 rel:Rel ce X.K ι h H
 st:RSt X.K ι H σi σ
def RU (K:W.Frag)(ι:List Zm)(H:Hp)(v:IV)(u:Ze):Prop:=∃x,RelV x u/\RV K ι H v x
theorem RU.mono {K:W.Frag}{ι ι':List Zm}{H H':Hp}{v:IV}{u:Ze}(n:Nxt ι H ι' H')(r:RU K ι H v u):RU K ι' H' v u :=
 let ⟨x,a,b⟩:=r;⟨x,a,RV.mono n _ _ b⟩
def RUs (K:W.Frag)(ι:List Zm)(H:Hp)(vs:List IV)(us:List Ze):Prop:=∃xs,Vals xs us/\RVs K ι H vs xs
theorem RUs.mono {K:W.Frag}{ι ι':List Zm}{H H':Hp}{v:List IV}{u:List Ze}(n:Nxt ι H ι' H')(r:RUs K ι H v u):RUs K ι' H' v u :=
 let ⟨x,a,b⟩:=r;⟨x,a,RVs.mono n _ _ b⟩
abbrev REL (α β:Type):=W.Frag->List Zm->Hp->α->β->Prop
def RB:REL Bool Bool:=λ _ _ _ b c=>c=b
section
variable {α β γ δ:Type}
def Kont (ce:CeT)(X:Cx)(R:REL α β)(pj:PnT)(ι:List Zm)(σi:ISt)(σ:L2.St)(H:Hp)(r:Res α)(Q:β->Zl->Prop)(E:QvT):Prop :=
 match r with
 | .ok v h'=>∀u s' H' ι',Now ce X pj ι' σi h' σ H' s'->Nxt ι H ι' H'->R X.K ι' H' v u->Q u s'
 | .exc n h'=>∀pl a s' H' ι',Now ce X (pj++pl) ι' σi h' σ H' s'->Nxt ι H ι' H'->ι'[n]?=Za a->E (.ref a) s'
 | .stuck=>False
variable {ce:CeT}{X:Cx}{R:REL α β}{R':REL γ δ}{pj:PnT}{ι ι':List Zm}{σi:ISt}{σ:L2.St}{H H':Hp}
theorem Kont.mono (k:Kont ce X R pj ι σi σ H r Q E)(n:Nxt ι H ι' H'):Kont ce X R pj ι' σi σ H' r Q E:=by
 cases r with
 | ok v h'=>exact λ u s' H2 ι2 N n2 q=>k u s' H2 ι2 N (n.trans n2) q
 | exc m h'=>exact λ pl a s' H2 ι2 N n2 q=>k pl a s' H2 ι2 N (n.trans n2) q
 | stuck=>exact k
def PX (ce:CeT)(X:Cx)(R:REL α β)(t:Sem β)(m:ISt->IH->Res α):Prop :=
 ∀(pj:PnT)(s:Zl)(σ:L2.St)(H:Hp)(ι:List Zm)(σi:ISt)(h:IH)(Q:β->Zl->Prop)(E:QvT),Now ce X pj ι σi h σ H s->Kont ce X R pj ι σi σ H (m σi h) Q E ->
  Zx (Z8 X.prog X.w) X.A t Q E s
theorem PX.run (p:PX ce X R t m)(N:Now ce X pj ι σi h σ H s){g:α->IH->Res γ}{Q:δ->Zl->Prop}{E:QvT}{Q1:β->Zl->Prop} 
  (K:Kont ce X R' pj ι σi σ H ((m σi h).bind g) Q E)
  (step:∀x h1 u s1 H1 ι1,Now ce X pj ι1 σi h1 σ H1 s1->Nxt ι H ι1 H1->R X.K ι1 H1 x u->Kont ce X R' pj ι1 σi σ H1 (g x h1) Q E->Q1 u s1):Zx (Z8 X.prog X.w) X.A t Q1 E s:=by
 refine p pj s σ H ι σi h Q1 E N ?_
 cases e:m σi h with
 | ok v h' =>
  rw[e] at K
  exact λ u s' H' ι' N' n' r=>step v h' u s' H' ι' N' n' r (Kont.mono (r:=g v h') K n')
 | exc n h' =>
  rw[e] at K
  exact K
 | stuck =>
  rw[e] at K
  exact K
end
abbrev PEi (ce:CeT)(X:Cx)(e:Expr)(m:ISt->IH->Res IV):Prop:=PX ce X RU (Zbe e X.env) m
abbrev PTi (ce:CeT)(X:Cx)(e:Expr)(m:ISt->IH->Res Bool):Prop:=PX ce X RB (isTrue e X.env (Zbe e X.env)) m
def PWi (ce:CeT)(X:Cx)(e:Expr)(m:ISt->IH->Res Bool):Prop:=∀whole:Sem Ze,PX ce X RB (isTrue e X.env whole) m
def PAi (ce:CeT)(X:Cx)(es:List Expr)(m:ISt->IH->Res (List IV)):Prop:=∀pos:Pos,PX ce X RUs (spliced (Zbj pos (ZG es X.env))) m
abbrev E1:=ISt->IH->Res IV
abbrev T1:=ISt->IH->Res Bool
abbrev A1:=ISt->IH->Res (List IV)
noncomputable def Ja (i:Nat):E1:=λ σ h=>match σ[i]? with|some (Za v)=>.ok v h|_=>.stuck
noncomputable def eC (v:IV):E1:=λ _ h=>.ok v h
def Jc (f:IV->IV->IH->Res IV)(a b:E1):E1:=λ σ h=>(a σ h).bind λ x h1=>(b σ h1).bind λ y h2=>f x y h2
def eUn (f:IV->IH->Res IV)(a:E1):E1:=λ σ h=>(a σ h).bind λ x h1=>f x h1
def eAnd (a b:E1)(tr:IV->IH->Res Bool):E1:=λ σ h=>(a σ h).bind λ x h1=>(tr x h1).bind λ c h2=>if c then b σ h2 else .ok x h2
def eOr (a b:E1)(tr:IV->IH->Res Bool):E1:=λ σ h=>(a σ h).bind λ x h1=>(tr x h1).bind λ c h2=>if c then .ok x h2 else b σ h2
def eIf (t:T1)(a b:E1):E1:=λ σ h=>(t σ h).bind λ c h1=>if c then a σ h1 else b σ h1
def JX (a b:T1):T1:=λ σ h=>(a σ h).bind λ c h1=>if c then b σ h1 else .ok Zj h1
def tOrI (a b:T1):T1:=λ σ h=>(a σ h).bind λ c h1=>if c then .ok Zg h1 else b σ h1
def JB (a:T1):T1:=λ σ h=>(a σ h).bind λ c h1=>.ok (!c) h1
def Jh (tr:IV->IH->Res Bool)(a:E1):T1:=λ σ h=>(a σ h).bind λ x h1=>tr x h1
noncomputable def Jd:A1:=λ _ h=>.ok [] h
def Jb (a:E1)(r:A1):A1:=λ σ h=>(a σ h).bind λ x h1=>(r σ h1).bind λ xs h2=>.ok (x::xs) h2
def JW (f g:IV->IV->IH->Res IV)(a b c:E1):E1:=λ σ h=>(a σ h).bind λ x h1=>(b σ h1).bind λ y h2=>(f x y h2).bind λ k h3 =>
 match k with
 | .bl Zg=>(c σ h3).bind λ z h4=>g y z h4
 | .bl Zj=>.ok (.bl Zj) h3
 | _=>.stuck
section
variable {ce:CeT}{X:Cx}{a b c:Expr}{ma mb mc:E1}{pos:Pos}
def OpI (ce:CeT)(X:Cx)(f:Ze->Ze->Sem Ze)(g:IV->IV->IH->Res IV):Prop :=
 ∀(pj:PnT)(s:Zl)(σ:L2.St)(H:Hp)(ι:List Zm)(σi:ISt)(h:IH)(x y:IV)(v u:Ze)(Q:QvT)(E:QvT),Now ce X pj ι σi h σ H s->RU X.K ι H x v->RU X.K ι H y u ->
  Kont ce X RU pj ι σi σ H (g x y h) Q E->Zx (Z8 X.prog X.w) X.A (f v u) Q E s
def UnI (ce:CeT)(X:Cx)(f:Ze->Sem Ze)(g:IV->IH->Res IV):Prop :=
 ∀(pj:PnT)(s:Zl)(σ:L2.St)(H:Hp)(ι:List Zm)(σi:ISt)(h:IH)(x:IV)(v:Ze)(Q:QvT)(E:QvT),Now ce X pj ι σi h σ H s->RU X.K ι H x v ->
  Kont ce X RU pj ι σi σ H (g x h) Q E->Zx (Z8 X.prog X.w) X.A (f v) Q E s
def TrI (ce:CeT)(X:Cx)(g:IV->IH->Res Bool):Prop :=
 ∀(pj:PnT)(s:Zl)(σ:L2.St)(H:Hp)(ι:List Zm)(σi:ISt)(h:IH)(x:IV)(v:Ze)(Q:Bool->Zl->Prop)(E:QvT),Now ce X pj ι σi h σ H s->RU X.K ι H x v ->
  Kont ce X RB pj ι σi σ H (g x h) Q E->Zx (Z8 X.prog X.w) X.A (truthy v) Q E s
def Qi (ce:CeT)(X:Cx)(f:Ze)(g:List IV->IH->Res IV):Prop :=
 ∀(pj:PnT)(s:Zl)(σ:L2.St)(H:Hp)(ι:List Zm)(σi:ISt)(h:IH)(xs:List IV)(us:List Ze)(Q:QvT)(E:QvT),Now ce X pj ι σi h σ H s->RUs X.K ι H xs us ->
  Kont ce X RU pj ι σi σ H (g xs h) Q E->Zx (Z8 X.prog X.w) X.A (call f us) Q E s
theorem XX {pj:PnT}{s:Zl}{σ:L2.St}{H:Hp}{Q:QvT}{E:QvT}{e:Expr}{t:TE}(p:PE (X.wish E) e t)(I:Inv X pj σ H s)
  (k:t σ H λ z H'=>∀u s',Inv X pj σ H' s'->RelV z u->Q u s'):Zx (Z8 X.prog X.w) X.A (Zbe e X.env) Q E s :=
 Zam (p pj s σ H _ (I.wish E) k) (λ u s' ⟨_,_,I',r,q⟩=>q u s' I'.unwish r) λ _ _ z=>z
theorem Qe {pj:PnT}{s:Zl}{σ:L2.St}{H:Hp}{Q:QvT}{E:QvT}{f:Ze->Ze->Sem Ze}{r:R2}{x y:V}{v u:Ze}(p:OpR (X.wish E) f r)(I:Inv X pj σ H s)(rx:RelV x v)(ry:RelV y u)
  (k:r x y H λ z H'=>∀u s',Inv X pj σ H' s'->RelV z u->Q u s'):Zx (Z8 X.prog X.w) X.A (f v u) Q E s :=
 Zam (p pj s σ H x y v u _ (I.wish E) rx ry k) (λ u s' ⟨_,_,I',r,q⟩=>q u s' I'.unwish r) λ _ _ z=>z
theorem J2g {pj:PnT}{s:Zl}{σ:L2.St}{H:Hp}{Q:QvT}{E:QvT}{f:Ze->Sem Ze}{r:V->Hp->VK->Prop}{x:V}{v:Ze}(p:UnR (X.wish E) f r)(I:Inv X pj σ H s)(rx:RelV x v)
  (k:r x H λ z H'=>∀u s',Inv X pj σ H' s'->RelV z u->Q u s'):Zx (Z8 X.prog X.w) X.A (f v) Q E s :=
 Zam (p pj s σ H x v _ (I.wish E) rx k) (λ u s' ⟨_,_,I',r,q⟩=>q u s' I'.unwish r) λ _ _ z=>z
theorem Xc {pj:PnT}{s:Zl}{σ:L2.St}{H:Hp}{Q:Bool->Zl->Prop}{E:QvT}{r:V->Hp->(Bool->Hp->Prop)->Prop}{x:V}{v:Ze}(p:TruR (X.wish E) r)(I:Inv X pj σ H s)(rx:RelV x v)
  (k:r x H λ z H'=>∀s',Inv X pj σ H' s'->Q z s'):Zx (Z8 X.prog X.w) X.A (truthy v) Q E s :=
 Zam (p pj s σ H x v _ (I.wish E) rx k) (λ _ s' ⟨_,I',q⟩=>q s' I'.unwish) λ _ _ z=>z
theorem Q7 {pj:PnT}{s:Zl}{σ:L2.St}{H:Hp}{Q:QvT}{E:QvT}{f:Ze}{r:List V->Hp->VK->Prop}{xs:List V}{us:List Ze}(p:Xg (X.wish E) f r)(I:Inv X pj σ H s)(rx:Vals xs us)
  (k:r xs H λ z H'=>∀u s',Inv X pj σ H' s'->RelV z u->Q u s'):Zx (Z8 X.prog X.w) X.A (call f us) Q E s :=
 Zam (p pj s σ H xs us _ (I.wish E) rx k) (λ u s' ⟨_,_,I',r,q⟩=>q u s' I'.unwish r) λ _ _ z=>z
theorem J3g (i:Nat){pos:Pos}(hN:X.N[i]?=Za x:=by rfl)(hv:Vis X.env.scope x:=by assumption)(hd:(x==("__debug__":Str))=Zj:=by decide) 
  (hcd:(x==("__classdict__":Str))=Zj:=by decide):PEi ce X (.Name x pos) (Ja i):=by
 intro pj s σ H ι σi h Q E N K
 unfold Ja at K
 cases e:σi[i]? with
 | none =>
  rw[e] at K
  exact Zf K
 | some o =>
  cases o with
  | none =>
   rw[e] at K
   exact Zf K
  | some v =>
   rw[e] at K
   obtain⟨u,e1,q⟩:=N.st.at_ i v e
   exact XX (J1q (X:=X.wish E) hN hv hd hcd) N.inv ⟨u,e1,λ u' s' I' r'=>K u' s' H ι ⟨I',N.rel,N.st⟩ .refl ⟨u,r',q⟩⟩
theorem J3a {i j pos}:PEi ce X (.Constant (.int i) j pos) (eC (.int i)):=λ _ _ _ H ι _ _ _ E N K=>XX (J1n (X:=X.wish E)) N.inv λ u' s' I' r'=>K u' s' H ι ⟨I',N.rel,N.st⟩ .refl ⟨_,r',rfl⟩
theorem i_bl {i j pos}:PEi ce X (.Constant (.bool i) j pos) (eC (.bl i)):=λ _ _ _ H ι _ _ _ E N K=>XX (J3y (X:=X.wish E)) N.inv λ u' s' I' r'=>K u' s' H ι ⟨I',N.rel,N.st⟩ .refl ⟨_,r',rfl⟩
theorem J3d {j pos}:PEi ce X (.Constant .none j pos) (eC .non):=λ _ _ _ H ι _ _ _ E N K=>XX (J1o (X:=X.wish E)) N.inv λ u' s' I' r'=>K u' s' H ι ⟨I',N.rel,N.st⟩ .refl ⟨_,r',rfl⟩
theorem J3e {i j pos}:PEi ce X (.Constant (.str i) j pos) (eC (.str i)):=λ _ _ _ H ι _ _ _ E N K=>XX (J1p (X:=X.wish E)) N.inv λ u' s' I' r'=>K u' s' H ι ⟨I',N.rel,N.st⟩ .refl ⟨_,r',rfl⟩
theorem J0i (hg:Gl X x)(hm:X.mg x=Za u)(r:RelV v u)(q:∀ι H,RV X.K ι H iv v)(hd:(x==("__debug__":Str))=Zj:=by decide):PEi ce X (.Name x pos) (eC iv) :=
 λ _ _ _ H ι _ _ _ E N K=>XX (Jyt (X:=X.wish E) hg hm r hd) N.inv λ u' s' I' r'=>K u' s' H ι ⟨I',N.rel,N.st⟩ .refl ⟨_,r',q _ _⟩
theorem J26 (ho:OpI ce X (ZaQ op) f)(ha:PEi ce X a ma)(hb:PEi ce X b mb):PEi ce X (.BinOp a op b pos) (Jc f ma mb) :=
 λ pj s σ H ι σi h Q E N K=>wpAny_BinOp (ha.run N K λ x h1 u s1 H1 ι1 N1 n1 r1 K1=>hb.run N1 K1 λ y h2 w s2 H2 ι2 N2 n2 r2 K2=>ho pj s2 σ H2 ι2 σi h2 x y u w Q E N2 (r1.mono n2) r2 K2)
theorem i_un (ho:UnI ce X (unaryOp op) f)(ha:PEi ce X a ma):PEi ce X (.UnaryOp op a pos) (eUn f ma) :=
 λ pj s σ H ι σi h Q E N K=>UnaryOp_ (ha.run N K λ x h1 u s1 H1 ι1 N1 n1 r1 K1=>ho pj s1 σ H1 ι1 σi h1 x u Q E N1 r1 K1)
theorem J28 (ho:OpI ce X (Zav op) f)(ha:PEi ce X a ma)(hb:PEi ce X b mb)(hm:Zci op b=Zj:=by assumption):PEi ce X (.Compare a [op] [b] pos) (Jc f ma mb) :=
 λ pj s σ H ι σi h Q E N K=>wpAny_Compare1 (ha.run N K λ x h1 u s1 H1 ι1 N1 n1 r1 K1=>hb.run N1 K1 λ y h2 w s2 H2 ι2 N2 n2 r2 K2=>ho pj s2 σ H2 ι2 σi h2 x y u w Q E N2 (r1.mono n2) r2 K2) hm
noncomputable def asB:IV->IH->Res Bool
 | .bl b,h=>.ok b h
 | _,_=>.stuck
theorem Kont.asB {r:Res IV}(K:Kont ce X RB pj ι σi σ H (r.bind asB) Q E) :
  Kont ce X RU pj ι σi σ H r (λ v s=>Zx (Z8 X.prog X.w) X.A (truthy v) Q E s) E:=by
 cases r with
 | exc n h=>exact K
 | stuck=>exact K
 | ok v h =>
  intro u s' H' ι' N n q
  obtain⟨x,rx,q⟩:=q
  cases v with
  | bl b =>
   have e:x=.bl b:=q
   subst e
   cases rx
   exact ZaT (K b s' H' ι' N n rfl)
  | _=>exact Zf K
theorem Res.bind_bind (r:Res α)(f:α->IH->Res β)(g:β->IH->Res γ):(r.bind f).bind g=r.bind λ x h=>(f x h).bind g:=by
 cases r<;>rfl
theorem J4b (ho:OpI ce X (Zav op) f)(ha:PEi ce X a ma)(hb:PEi ce X b mb)(hm:Zci op b=Zj:=by assumption):PTi ce X (.Compare a [op] [b] pos) (Jh asB (Jc f ma mb)) :=
 λ pj s σ H ι σi h Q E N K=>by
  have K':Kont ce X RB pj ι σi σ H ((ma σi h).bind λ x h1=>(mb σi h1).bind λ y h2=>(f x y h2).bind asB) Q E:=by
   unfold Jh Jc at K
   rw[Res.bind_bind] at K
   simp only[Res.bind_bind] at K
   exact K
  exact wpAny_isTrue_Compare1 (ha.run N K' λ x h1 u s1 H1 ι1 N1 n1 r1 K1=>hb.run N1 K1 λ y h2 w s2 H2 ι2 N2 n2 r2 K2=>ho pj s2 σ H2 ι2 σi h2 x y u w _ E N2 (r1.mono n2) r2 (Kont.asB K2)) hm
theorem J2b {tr:IV->IH->Res Bool}(ht:TrI ce X tr)(ha:PEi ce X a ma)(he:∀whole,isTrue a X.env whole=(do let v<-whole;Zez a.pos;ZbR [v] (truthy v)):=by intro _;rfl):PTi ce X a (Jh tr ma) :=
 λ pj s σ H ι σi h Q E N K=>isTrue_plain (ha.run N K λ x h1 u s1 H1 ι1 N1 n1 r1 K1=>ht pj s1 σ H1 ι1 σi h1 x u Q E N1 r1 K1) (he _)
variable {rest:List Expr}{ta tb:T1}
theorem Jzg (ha:PTi ce X a ta):PWi ce X (.BoolOp .And [a] pos) ta:=λ wh pj s σ H ι σi h Q E N K=>by
 refine isTrue_and (ha pj s σ H ι σi h _ E N ?_)
 cases e:ta σi h with
 | ok v h' =>
  rw[e] at K
  intro u s' H' ι' N' n' r
  have r':u=v:=r
  subst r'
  cases u with
  | true=>exact isTrue_and_nil (K Zg s' H' ι' N' n' rfl)
  | false=>exact K Zj s' H' ι' N' n' rfl
 | exc n h'=>rw[e] at K;exact K
 | stuck=>rw[e] at K;exact K
theorem J2e (ha:PTi ce X a ta):PWi ce X (.BoolOp .Or [a] pos) ta:=λ wh pj s σ H ι σi h Q E N K=>by
 refine isTrue_or (ha pj s σ H ι σi h _ E N ?_)
 cases e:ta σi h with
 | ok v h' =>
  rw[e] at K
  intro u s' H' ι' N' n' r
  have r':u=v:=r
  subst r'
  cases u with
  | false=>exact isTrue_or_nil (K Zj s' H' ι' N' n' rfl)
  | true=>exact K Zg s' H' ι' N' n' rfl
 | exc n h'=>rw[e] at K;exact K
 | stuck=>rw[e] at K;exact K
theorem J2d (ha:PTi ce X a ta)(hb:PWi ce X (.BoolOp .And (b::rest) pos) tb):PWi ce X (.BoolOp .And (a::b::rest) pos) (JX ta tb):=λ wh pj s σ H ι σi h Q E N K =>
 isTrue_and (ha.run N K λ c h1 u s1 H1 ι1 N1 n1 r1 K1=>by
  have r':u=c:=r1
  subst r'
  cases u with
  | true=>exact hb wh pj s1 σ H1 ι1 σi h1 Q E N1 K1
  | false=>exact K1 Zj s1 H1 ι1 N1 .refl rfl)
theorem J4f (ha:PTi ce X a ta)(hb:PWi ce X (.BoolOp .Or (b::rest) pos) tb):PWi ce X (.BoolOp .Or (a::b::rest) pos) (tOrI ta tb):=λ wh pj s σ H ι σi h Q E N K =>
 isTrue_or (ha.run N K λ c h1 u s1 H1 ι1 N1 n1 r1 K1=>by
  have r':u=c:=r1
  subst r'
  cases u with
  | false=>exact hb wh pj s1 σ H1 ι1 σi h1 Q E N1 K1
  | true=>exact K1 Zg s1 H1 ι1 N1 .refl rfl)
theorem PWi.t (h:PWi ce X a ta):PTi ce X a ta:=h _
theorem J4c (ha:PTi ce X a ta):PTi ce X (.UnaryOp .Not a pos) (JB ta):=λ pj s σ H ι σi h Q E N K =>
 isTrue_not (ha.run N K λ c h1 u s1 H1 ι1 N1 n1 r1 K1=>by
  have r':u=c:=r1
  subst r'
  exact K1 (!u) s1 H1 ι1 N1 .refl rfl)
theorem J0n {op}(h:PEi ce X a ma):PEi ce X (.BoolOp op [a] pos) ma:=λ pj s σ H ι σi h' Q E N K=>BoolOp_one (h pj s σ H ι σi h' Q E N K)
theorem J25 (ht:TrI ce X tr)(ha:PEi ce X a ma)(hb:PEi ce X (.BoolOp .And (b::rest) pos) mb):PEi ce X (.BoolOp .And (a::b::rest) pos) (eAnd ma mb tr):=λ pj s σ H ι σi h Q E N K =>
 BoolOp_and (ha.run N K λ x h1 u s1 H1 ι1 N1 n1 r1 K1=>by
  refine ht pj s1 σ H1 ι1 σi h1 x u _ E N1 r1 ?_
  cases e:tr x h1 with
  | ok c h2 =>
   rw[e] at K1
   intro d s2 H2 ι2 N2 n2 r2
   have r':d=c:=r2
   subst r'
   have K2:=Kont.mono (r:=if d=Zg then mb σi h2 else .ok x h2) K1 n2
   cases d with
   | true=>exact hb pj s2 σ H2 ι2 σi h2 Q E N2 K2
   | false=>exact K2 u s2 H2 ι2 N2 .refl (r1.mono n2)
  | exc n h'=>rw[e] at K1;exact K1
  | stuck=>rw[e] at K1;exact K1)
theorem i_or (ht:TrI ce X tr)(ha:PEi ce X a ma)(hb:PEi ce X (.BoolOp .Or (b::rest) pos) mb):PEi ce X (.BoolOp .Or (a::b::rest) pos) (eOr ma mb tr):=λ pj s σ H ι σi h Q E N K =>
 BoolOp_or (ha.run N K λ x h1 u s1 H1 ι1 N1 n1 r1 K1=>by
  refine ht pj s1 σ H1 ι1 σi h1 x u _ E N1 r1 ?_
  cases e:tr x h1 with
  | ok c h2 =>
   rw[e] at K1
   intro d s2 H2 ι2 N2 n2 r2
   have r':d=c:=r2
   subst r'
   have K2:=Kont.mono (r:=if d=Zg then .ok x h2 else mb σi h2) K1 n2
   cases d with
   | false=>exact hb pj s2 σ H2 ι2 σi h2 Q E N2 K2
   | true=>exact K2 u s2 H2 ι2 N2 .refl (r1.mono n2)
  | exc n h'=>rw[e] at K1;exact K1
  | stuck=>rw[e] at K1;exact K1)
def XF (tr:IV->IH->Res Bool):IV->IH->Res IV:=λ x h=>(tr x h).bind λ c h1=>.ok (.bl (!c)) h1
theorem Jzh (ht:TrI ce X tr):UnI ce X (unaryOp .Not) (XF tr):=λ pj s σ H ι σi h x v Q E N r K=>by
 refine not_of (ht pj s σ H ι σi h x v _ E N r ?_)
 unfold XF at K
 cases e:tr x h with
 | ok c h2 =>
  rw[e] at K
  intro d s2 H2 ι2 N2 n2 r2
  have r':d=c:=r2
  subst r'
  exact K _ s2 H2 ι2 N2 n2 ⟨.bl (!d),rfl,rfl⟩
 | exc n h'=>rw[e] at K;exact K
 | stuck=>rw[e] at K;exact K
theorem Jx7 {t:Expr}{mt:T1}(ht:PTi ce X t mt)(ha:PEi ce X a ma)(hb:PEi ce X b mb):PEi ce X (.IfExp t a b pos) (eIf mt ma mb):=λ pj s σ H ι σi h Q E N K =>
 wpAny_IfExp (ht.run N K λ c h1 u s1 H1 ι1 N1 n1 r1 K1=>by
  have r':u=c:=r1
  subst r'
  cases u with
  | true=>exact ha pj s1 σ H1 ι1 σi h1 Q E N1 K1
  | false=>exact hb pj s1 σ H1 ι1 σi h1 Q E N1 K1)
theorem Jx6 (ho:OpI ce X (Zav op) f)(ho':OpI ce X (Zav op') g)(ha:PEi ce X a ma)(hb:PEi ce X b mb)(hc:PEi ce X c mc) 
  (hm:Zd5 [op,op'] [b,c]=Zj:=by with_unfolding_all rfl):PEi ce X (.Compare a [op,op'] [b,c] pos) (JW f g ma mb mc):=λ pj s σ H ι σi h Q E N K =>
 Compare_chain (ha.run N K λ x h1 u s1 H1 ι1 N1 n1 r1 K1=>chain_link (hb.run N1 K1 λ y h2 w s2 H2 ι2 N2 n2 r2 K2=>by
  refine ho pj s2 σ H2 ι2 σi h2 x y u w _ E N2 (r1.mono n2) r2 ?_
  cases e:f x y h2 with
  | exc n h'=>rw[e] at K2;exact K2
  | stuck=>rw[e] at K2;exact K2
  | ok k h3 =>
   rw[e] at K2
   intro d s3 H3 ι3 N3 n3 r3
   obtain⟨z,rz,q⟩:=r3
   cases k with
   | bl k =>
    have e':z=.bl k:=q
    subst e'
    cases rz
    refine ZaT ?_
    have K3:=Kont.mono (r:=match IV.bl k with|.bl Zg=>(mc σi h3).bind λ z h4=>g y z h4|.bl Zj=>.ok (.bl Zj) h3|_=>.stuck) K2 n3
    cases k with
    | false=>exact ite_ff (K3 _ s3 H3 ι3 N3 .refl ⟨.bl Zj,rfl,rfl⟩)
    | true=>exact ite_tt (chain_last (hc.run N3 K3 λ z h4 w' s4 H4 ι4 N4 n4 r4 K4=>ho' pj s4 σ H4 ι4 σi h4 y z w w' Q E N4 ((r2.mono n3).mono n4) r4 K4))
   | _=>exact Zf K2)) hm
theorem Jzf (ho:OpI ce X (Zav op) f)(ho':OpI ce X (Zav op') g)(ha:PEi ce X a ma)(hb:PEi ce X b mb)(hc:PEi ce X c mc) 
  (hm:Zd5 [op,op'] [b,c]=Zj:=by with_unfolding_all rfl):PTi ce X (.Compare a [op,op'] [b,c] pos) (Jh asB (JW f g ma mb mc)):=λ pj s σ H ι σi h Q E N K=>by
 have K':Kont ce X RB pj ι σi σ H ((ma σi h).bind λ x h1=>(mb σi h1).bind λ y h2=>(f x y h2).bind λ k h3=>(match k with|.bl Zg=>(mc σi h3).bind λ z h4=>g y z h4|.bl Zj=>.ok (.bl Zj) h3|_=>.stuck:Res IV).bind asB) Q E:=by
  unfold Jh JW at K
  rw[Res.bind_bind] at K
  simp only[Res.bind_bind] at K
  exact K
 refine isTrue_chain (ha.run N K' λ x h1 u s1 H1 ι1 N1 n1 r1 K1=>test_link (hb.run N1 K1 λ y h2 w s2 H2 ι2 N2 n2 r2 K2=>?_)) hm
 refine ho pj s2 σ H2 ι2 σi h2 x y u w _ E N2 (r1.mono n2) r2 ?_
 cases e:f x y h2 with
 | exc n h'=>rw[e] at K2;exact K2
 | stuck=>rw[e] at K2;exact K2
 | ok k h3 =>
  rw[e] at K2
  intro d s3 H3 ι3 N3 n3 r3
  obtain⟨z,rz,q⟩:=r3
  cases k with
  | bl k =>
   have e':z=.bl k:=q
   subst e'
   cases rz
   refine ZaT ?_
   have K3:=Kont.mono (r:=(match IV.bl k with|.bl Zg=>(mc σi h3).bind λ z h4=>g y z h4|.bl Zj=>.ok (.bl Zj) h3|_=>.stuck:Res IV).bind asB) K2 n3
   cases k with
   | false=>exact ite_ff (K3 _ s3 H3 ι3 N3 .refl rfl)
   | true =>
    have K3':Kont ce X RB pj ι3 σi σ H3 ((mc σi h3).bind λ z h4=>(g y z h4).bind asB) Q E:=by
     have:=K3
     dsimp only at this
     rw[Res.bind_bind] at this
     exact this
    exact ite_tt (test_last (hc.run N3 K3' λ z h4 w' s4 H4 ι4 N4 n4 r4 K4=>ho' pj s4 σ H4 ι4 σi h4 y z w w' _ E N4 ((r2.mono n3).mono n4) r4 (Kont.asB K4)))
  | _=>exact Zf K2
variable {es:List Expr}{mr:A1}
theorem RUs.nil {K:W.Frag}{ι:List Zm}{H:Hp}:RUs K ι H [] []:=⟨[],.nil,rfl⟩
theorem RUs.cons {K:W.Frag}{ι:List Zm}{H:Hp}{x:IV}{u:Ze}{xs:List IV}{us:List Ze}(a:RU K ι H x u)(b:RUs K ι H xs us):RUs K ι H (x::xs) (u::us) :=
 let ⟨v,r,q⟩:=a;let ⟨vs,rs,qs⟩:=b;⟨v::vs,.cons r rs,v,vs,rfl,q,qs⟩
theorem Vd:PAi ce X [] Jd:=λ _ pj s σ H ι σi h Q E N K=>Calls.spliced_nil (K [] s H ι N .refl .nil)
theorem QR (ha:PEi ce X a ma)(hr:PAi ce X es mr)(hs:ZG (a::es) X.env=(Zj,Zbe a X.env)::ZG es X.env:=by rfl):PAi ce X (a::es) (Jb ma mr):=by
 intro pos pj s σ H ι σi h Q E N K
 rw[hs]
 show Zx _ _ (spliced ((Zj,Zbe a X.env)::Zbj pos (ZG es X.env))) _ _ s
 exact Zdm (ha.run N K λ x h1 u s1 H1 ι1 N1 n1 r1 K1=>(hr pos).run N1 K1 λ xs h2 us s2 H2 ι2 N2 n2 r2 K2=>K2 _ s2 H2 ι2 N2 .refl (.cons (r1.mono n2) r2))
end
noncomputable def Jl:IV->IV->IH->Res IV
 | .int i,.int j,h=>.ok (.int (i+j)) h
 | .str x,.str y,h=>if x.length+y.length<=sizeLine then .ok (.str (x++y)) h else .stuck
 | .ref i,.ref j,h=>match h[i]?,h[j]? with
  | some (.lst xs),Za (.lst ys)=>if xs.length+ys.length<=sizeLine then .ok (.ref h.length) (h++[.lst (xs++ys)]) else .stuck
  | _,_=>.stuck
 | .tup xs,.tup ys,h=>if xs≠[]/\ys≠[]/\xs.length+ys.length<=sizeLine then .ok (.tup (xs++ys)) h else .stuck
 | _,_,_=>.stuck
noncomputable def JZ:IV->IV->IH->Res IV
 | .int i,.int j,h=>.ok (.int (i-j)) h
 | _,_,_=>.stuck
def Vc (i j:Int):Prop:=i.natAbs<2^64∨j.natAbs<2^64∨(i.natAbs.log2<1048576/\j.natAbs.log2<1048576)
instance (i j:Int):Decidable (Vc i j):=by unfold Vc;exact inferInstance
def XE:IV->IV->IH->Res IV
 | .int i,.int j,h=>if Vc i j then .ok (.int (i*j)) h else .stuck
 | .ref i,.int k,h=>match h[i]? with
  | some (.lst xs)=>if -(2^63)<=k/\k<2^63/\xs.length*k.toNat<=sizeLine then .ok (.ref h.length) (h++[.lst (ZS k.toNat xs).flatten]) else .stuck
  | _=>.stuck
 | _,_,_=>.stuck
def JI:IV->IV->IH->Res IV
 | .int i,.int j,h=>if 0<j/\j.natAbs.log2<9000 then .ok (.int (i/j)) h else .stuck
 | _,_,_=>.stuck
def Ju:IV->IV->IH->Res IV
 | .int i,.int j,h=>if 0<j then .ok (.int (i%j)) h else .stuck
 | _,_,_=>.stuck
def JJ:IV->IV->IH->Res IV
 | .int i,.int j,h=>if 0<=j/\j<=1000000/\i.natAbs<2^64 then .ok (.int (i^j.toNat)) h else .stuck
 | _,_,_=>.stuck
noncomputable def Yz:IV->IH->Res IV
 | .int i,h=>.ok (.int (-i)) h
 | _,_=>.stuck
section
variable {ce:CeT}{X:Cx}
theorem fin0 {w:V}(N:Now ce X pj ι σi h σ H s)(K:Kont ce X RU pj ι σi σ H (.ok v h) Q E) 
  (q:RV X.K ι H v w):∀u s',Inv X pj σ H s'->RelV w u->Q u s':=λ u s' I r=>K u s' H ι ⟨I,N.rel,N.st⟩ .refl ⟨w,r,q⟩
theorem finA {io:IX}{o:HO}{Q:QvT}{E:QvT}(N:Now ce X pj ι σi h σ H s) 
  (K:Kont ce X RU pj ι σi σ H (.ok (.ref h.length) (h++[io])) Q E)(l:Zm)(e:H l=Zc)(r:RO ce X.K (ι++[l]) (upd H l o) l io):∀u s',Inv X pj σ (upd H l o) s'->RelV (.ref l) u->Q u s':=λ u s' I ru=>by
 obtain⟨R,n⟩:=N.rel.alloc e r
 refine K u s' _ _ ⟨I,R,N.st.mono n⟩ n ⟨.ref l,ru,l,rfl,?_⟩
 rw[<- N.rel.len,Z9 (Zo _)]
 simp
theorem finT {xs:List IV}{vs:List V}{Q:QvT}{E:QvT}(N:Now ce X pj ι σi h σ H s) 
  (K:Kont ce X RU pj ι σi σ H (.ok (.tup xs) h) Q E)(l:Zm)(e:H l=Zc)(r:RVs X.K ι H xs vs):∀u s',Inv X pj σ (upd H l (.tup vs)) s'->RelV (.ref l) u->Q u s':=λ u s' I ru=>by
 obtain⟨R,n⟩:=N.rel.grow (o:=.tup vs) e
 exact K u s' _ _ ⟨I,R,N.st.mono n⟩ n ⟨.ref l,ru,l,vs,rfl,SqT.of J7,RVs.mono n _ _ r⟩
theorem RVs.new {K:W.Frag}{ι:List Zm}{H:Hp}{l:Zm}{o:HO}(e:H l=Zc){xs:List IV}{vs:List V}(r:RVs K ι H xs vs):RVs K (ι++[l]) (upd H l o) xs vs:=RVs.mono ⟨⟨[l],rfl⟩,Ext.upd_new e⟩ _ _ r
theorem Now.at (N:Now ce X pj ι σi h σ H s){i:Nat}(e:h[i]?=Za o)(ha:ι[i]?=Za a):RO ce X.K ι H a o:=by
 obtain⟨b,e1,r⟩:=N.rel.at_ i o e
 rw[ha] at e1
 cases e1
 exact r
theorem J3k:OpI ce X (ZaQ .Add) Jl:=by
 intro pj s σ H ι σi h x y v u Q E N rx ry K
 obtain⟨xv,rx,qx⟩:=rx
 obtain⟨yv,ry,qy⟩:=ry
 cases x with
 | int i =>
  cases y with
  | int j =>
   have e1:xv=.int i:=qx
   have e2:yv=.int j:=qy
   subst e1 e2
   exact Qe (J1f (X:=X.wish E)) N.inv rx ry ⟨i,j,rfl,rfl,fin0 N K rfl⟩
  | _=>exact Zf K
 | str i =>
  cases y with
  | str j =>
   have e1:xv=.str i:=qx
   have e2:yv=.str j:=qy
   subst e1 e2
   dsimp only[Jl] at K
   split at K
   ·rename_i hz
    exact Qe (Jqc (X:=X.wish E)) N.inv rx ry ⟨i,j,rfl,rfl,hz,fin0 N K rfl⟩
   ·exact Zf K
  | _=>exact Zf K
 | tup xs =>
  cases y with
  | tup ys =>
   obtain⟨a,vs,e1,sa,ra⟩:=qx
   obtain⟨b,ws,e2,sb,rb⟩:=qy
   subst e1 e2
   dsimp only[Jl] at K
   split at K
   ·rename_i hz
    obtain⟨h1,h2,h3⟩:=hz
    have n1:vs≠[]:=λ z=>h1 (by have:=ra.length;rw[z] at this;exact ZaG this.symm)
    have n2:ws≠[]:=λ z=>h2 (by have:=rb.length;rw[z] at this;exact ZaG this.symm)
    exact Qe (Jyq (X:=X.wish E)) N.inv rx ry ⟨a,b,vs,ws,rfl,rfl,sa,sb,n1,by rw[ra.length,rb.length];exact h3,λ z=>absurd z n2,λ _ p hp=>finT N K p hp (ra.append rb)⟩
   ·exact Zf K
  | _=>exact Zf K
 | ref i =>
  cases y with
  | ref j =>
   obtain⟨a,e1,ha⟩:=qx
   obtain⟨b,e2,hb⟩:=qy
   subst e1 e2
   dsimp only[Jl] at K
   cases hi:h[i]? with
   | none=>rw[hi] at K;exact Zf K
   | some oi =>
    cases hj:h[j]? with
    | none=>rw[hi,hj] at K;cases oi<;>exact Zf K
    | some oj =>
     rw[hi,hj] at K
     cases oi with
     | lst xs =>
      cases oj with
      | lst ys =>
       dsimp only at K
       split at K
       ·rename_i hz
        obtain⟨vs,e1,r1⟩:=N.at hi ha
        obtain⟨ws,e2,r2⟩:=N.at hj hb
        exact Qe (J1g (X:=X.wish E)) N.inv rx ry ⟨a,b,vs,ws,rfl,rfl,e1,e2,by rw[r1.length,r2.length];exact hz,λ p hp=>finA N K p hp ⟨_,J7,RVs.new hp (r1.append r2)⟩⟩
       ·exact Zf K
      | _=>exact Zf K
     | _=>exact Zf K
  | _=>exact Zf K
 | _=>cases y<;>exact Zf K
theorem J3r:OpI ce X (ZaQ .Sub) JZ:=by
 intro pj s σ H ι σi h x y v u Q E N rx ry K
 obtain⟨xv,rx,qx⟩:=rx
 obtain⟨yv,ry,qy⟩:=ry
 cases x with
 | int i =>
  cases y with
  | int j =>
   have e1:xv=.int i:=qx
   have e2:yv=.int j:=qy
   subst e1 e2
   exact Qe (J1k (X:=X.wish E)) N.inv rx ry ⟨i,j,rfl,rfl,fin0 N K rfl⟩
  | _=>exact Zf K
 | _=>cases y<;>exact Zf K
theorem Vc.ok (h:Vc i j):IntMulOk i j:=by
 rcases h with h|h|⟨h1,h2⟩
 ·exact .of_left (intBits_le_64 (by omega) (by omega))
 ·exact .of_right (intBits_le_64 (by omega) (by omega))
 ·refine .of_bits ?_ ?_
  ·unfold Builtin.Int.intBits
   split
   ·exact ZX _
   ·have:(2:Nat)^20=1048576:=by decide
    omega
  ·unfold Builtin.Int.intBits
   split
   ·exact ZX _
   ·have:(2:Nat)^20=1048576:=by decide
    omega
theorem Jyr:OpR X (ZaQ .Mult) (rI Vc λ i j=>.int (i*j)):=opI λ _ _ _ _ _ _ _ hc q=>mul_int q hc.ok
theorem J3p:OpI ce X (ZaQ .Mult) XE:=by
 intro pj s σ H ι σi h x y v u Q E N rx ry K
 obtain⟨xv,rx,qx⟩:=rx
 obtain⟨yv,ry,qy⟩:=ry
 cases x with
 | int i =>
  cases y with
  | int j =>
   have e1:xv=.int i:=qx
   have e2:yv=.int j:=qy
   subst e1 e2
   dsimp only[XE] at K
   split at K
   ·rename_i hz
    exact Qe (Jyr (X:=X.wish E)) N.inv rx ry ⟨i,j,rfl,rfl,hz,fin0 N K rfl⟩
   ·exact Zf K
  | _=>exact Zf K
 | ref i =>
  cases y with
  | int k =>
   obtain⟨a,e1,ha⟩:=qx
   have e2:yv=.int k:=qy
   subst e1 e2
   dsimp only[XE] at K
   cases hi:h[i]? with
   | none=>rw[hi] at K;exact Zf K
   | some oi =>
    rw[hi] at K
    cases oi with
    | lst xs =>
     dsimp only at K
     split at K
     ·rename_i hz
      obtain⟨vs,e1,r1⟩:=N.at hi ha
      have rr:∀n:Nat,RVs X.K ι H (ZS n xs).flatten (ZS n vs).flatten:=λ n=>by
       induction n with
       | zero=>exact rfl
       | succ n ih =>
        rw[ZaX,ZaX,Zb4,Zb4]
        exact r1.append ih
      exact Qe (J1j (X:=X.wish E)) N.inv rx ry ⟨a,k,vs,rfl,rfl,e1,hz.1,hz.2.1,by rw[r1.length];exact hz.2.2,λ p hp=>finA N K p hp ⟨_,J7,RVs.new hp (rr _)⟩⟩
     ·exact Zf K
    | _=>exact Zf K
  | _=>exact Zf K
 | _=>cases y<;>exact Zf K
theorem Jus:OpR X (ZaQ .FloorDiv) (rI (λ _ j=>0<j/\j.natAbs.log2<9000) λ i j=>.int (i/j)):=opI λ i j _ _ _ _ _ hc q=>by
 have h1:(0:Int)<j:=hc.1
 exact floordiv_int (by omega) (by rw[Int.fdiv_eq_ediv_of_nonneg i (by omega)];exact q) (.inl (PyProof.noPylong_of_log2 hc.2))
theorem J1c:OpI ce X (ZaQ .FloorDiv) JI:=by
 intro pj s σ H ι σi h x y v u Q E N rx ry K
 obtain⟨xv,rx,qx⟩:=rx
 obtain⟨yv,ry,qy⟩:=ry
 cases x with
 | int i =>
  cases y with
  | int j =>
   have e1:xv=.int i:=qx
   have e2:yv=.int j:=qy
   subst e1 e2
   dsimp only[JI] at K
   split at K
   ·rename_i hz
    exact Qe (Jus (X:=X.wish E)) N.inv rx ry ⟨i,j,rfl,rfl,hz,fin0 N K rfl⟩
   ·exact Zf K
  | _=>exact Zf K
 | _=>cases y<;>exact Zf K
theorem J3o:OpI ce X (ZaQ .Mod) Ju:=by
 intro pj s σ H ι σi h x y v u Q E N rx ry K
 obtain⟨xv,rx,qx⟩:=rx
 obtain⟨yv,ry,qy⟩:=ry
 cases x with
 | int i =>
  cases y with
  | int j =>
   have e1:xv=.int i:=qx
   have e2:yv=.int j:=qy
   subst e1 e2
   dsimp only[Ju] at K
   split at K
   ·rename_i hz
    exact Qe (J1h (X:=X.wish E)) N.inv rx ry ⟨i,j,rfl,rfl,hz,fin0 N K rfl⟩
   ·exact Zf K
  | _=>exact Zf K
 | _=>cases y<;>exact Zf K
theorem J3q:OpI ce X (ZaQ .Pow) JJ:=by
 intro pj s σ H ι σi h x y v u Q E N rx ry K
 obtain⟨xv,rx,qx⟩:=rx
 obtain⟨yv,ry,qy⟩:=ry
 cases x with
 | int i =>
  cases y with
  | int j =>
   have e1:xv=.int i:=qx
   have e2:yv=.int j:=qy
   subst e1 e2
   dsimp only[JJ] at K
   split at K
   ·rename_i hz
    exact Qe (J1i (X:=X.wish E)) N.inv rx ry ⟨i,j,rfl,rfl,hz,fin0 N K rfl⟩
   ·exact Zf K
  | _=>exact Zf K
 | _=>cases y<;>exact Zf K
theorem J4g:UnI ce X (unaryOp .USub) Yz:=by
 intro pj s σ H ι σi h x v Q E N rx K
 obtain⟨xv,rx,qx⟩:=rx
 cases x with
 | int i =>
  have e1:xv=.int i:=qx
  subst e1
  exact J2g (J2f (X:=X.wish E)) N.inv rx ⟨i,rfl,fin0 N K rfl⟩
 | _=>exact Zf K
noncomputable def cLt:IV->IV->IH->Res IV
 | .int i,.int j,h=>.ok (.bl (decide (i<j))) h
 | .str x,.str y,h=>.ok (.bl (decide (x.cps.toList<y.cps.toList))) h
 | _,_,_=>.stuck
noncomputable def cLe:IV->IV->IH->Res IV
 | .int i,.int j,h=>.ok (.bl (decide (i<=j))) h
 | .str x,.str y,h=>.ok (.bl (!decide (y.cps.toList<x.cps.toList))) h
 | _,_,_=>.stuck
noncomputable def cGt:IV->IV->IH->Res IV
 | .int i,.int j,h=>.ok (.bl (decide (j<i))) h
 | _,_,_=>.stuck
noncomputable def cGe:IV->IV->IH->Res IV
 | .int i,.int j,h=>.ok (.bl (decide (j<=i))) h
 | _,_,_=>.stuck
theorem o_lt:OpI ce X (Zav .Lt) cLt:=by
 intro pj s σ H ι σi h x y v u Q E N rx ry K
 obtain⟨xv,rx,qx⟩:=rx
 obtain⟨yv,ry,qy⟩:=ry
 cases x with
 | int i =>
  cases y with
  | int j =>
   have e1:xv=.int i:=qx
   have e2:yv=.int j:=qy
   subst e1 e2
   exact Qe (J3w (X:=X.wish E)) N.inv rx ry ⟨i,j,rfl,rfl,fin0 N K rfl⟩
  | _=>exact Zf K
 | str i =>
  cases y with
  | str j =>
   have e1:xv=.str i:=qx
   have e2:yv=.str j:=qy
   subst e1 e2
   exact Qe (Jsl (X:=X.wish E)) N.inv rx ry ⟨i,j,rfl,rfl,fin0 N K rfl⟩
  | _=>exact Zf K
 | _=>cases y<;>exact Zf K
theorem o_le:OpI ce X (Zav .LtE) cLe:=by
 intro pj s σ H ι σi h x y v u Q E N rx ry K
 obtain⟨xv,rx,qx⟩:=rx
 obtain⟨yv,ry,qy⟩:=ry
 cases x with
 | int i =>
  cases y with
  | int j =>
   have e1:xv=.int i:=qx
   have e2:yv=.int j:=qy
   subst e1 e2
   exact Qe (J3v (X:=X.wish E)) N.inv rx ry ⟨i,j,rfl,rfl,fin0 N K rfl⟩
  | _=>exact Zf K
 | str i =>
  cases y with
  | str j =>
   have e1:xv=.str i:=qx
   have e2:yv=.str j:=qy
   subst e1 e2
   obtain⟨t,rfl⟩:=rx
   obtain⟨t',rfl⟩:=ry
   exact PySem.P.le_str (fin0 N K rfl _ s N.inv rfl)
  | _=>exact Zf K
 | _=>cases y<;>exact Zf K
theorem o_gt:OpI ce X (Zav .Gt) cGt:=by
 intro pj s σ H ι σi h x y v u Q E N rx ry K
 obtain⟨xv,rx,qx⟩:=rx
 obtain⟨yv,ry,qy⟩:=ry
 cases x with
 | int i =>
  cases y with
  | int j =>
   have e1:xv=.int i:=qx
   have e2:yv=.int j:=qy
   subst e1 e2
   exact Qe (J3u (X:=X.wish E)) N.inv rx ry ⟨i,j,rfl,rfl,fin0 N K rfl⟩
  | _=>exact Zf K
 | _=>cases y<;>exact Zf K
theorem o_ge:OpI ce X (Zav .GtE) cGe:=by
 intro pj s σ H ι σi h x y v u Q E N rx ry K
 obtain⟨xv,rx,qx⟩:=rx
 obtain⟨yv,ry,qy⟩:=ry
 cases x with
 | int i =>
  cases y with
  | int j =>
   have e1:xv=.int i:=qx
   have e2:yv=.int j:=qy
   subst e1 e2
   exact Qe (J3t (X:=X.wish E)) N.inv rx ry ⟨i,j,rfl,rfl,fin0 N K rfl⟩
  | _=>exact Zf K
 | _=>cases y<;>exact Zf K
noncomputable def tru:IV->IH->Res Bool
 | .non,h=>.ok Zj h
 | .bl b,h=>.ok b h
 | .int i,h=>.ok (i != 0) h
 | .str x,h=>if x.length<=sizeLine then .ok ((x.length:Int) != 0) h else .stuck
 | .tup xs,h=>.ok (!xs.isEmpty) h
 | .rol xs,h=>.ok (!xs.isEmpty) h
 | .ref i,h=>match h[i]? with
  | some (.lst xs)=>.ok (!xs.isEmpty) h
  | some (.dct kvs)=>.ok (!kvs.isEmpty) h
  | _=>.stuck
theorem RVs.empty {K:W.Frag}{ι:List Zm}{H:Hp}{xs:List IV}{vs:List V}(r:RVs K ι H xs vs):vs.isEmpty=xs.isEmpty:=by
 have:=r.length
 cases xs<;>cases vs<;>simp_all
theorem RPs.empty {κ:Type}{K:W.Frag}{ι:List Zm}{H:Hp}{xs:List (κ×IV)}{vs:List (κ×V)}(r:RPs K ι H xs vs):vs.isEmpty=xs.isEmpty:=by
 have:=r.length
 cases xs<;>cases vs<;>simp_all
theorem finB (N:Now ce X pj ι σi h σ H s)(K:Kont ce X RB pj ι σi σ H (.ok c h) Q E) :
  ∀s',Inv X pj σ H s'->Q c s':=λ s' I=>K c s' H ι ⟨I,N.rel,N.st⟩ .refl rfl
theorem Y6:TrI ce X tru:=by
 intro pj s σ H ι σi h x v Q E N rx K
 obtain⟨xv,rx,qx⟩:=rx
 cases x with
 | non =>
  have e1:xv=.non:=qx
  subst e1
  exact Xc (Xb (X:=X.wish E)) N.inv rx ⟨_,rfl,finB N K⟩
 | bl b =>
  have e1:xv=.bl b:=qx
  subst e1
  exact Xc (Xb (X:=X.wish E)) N.inv rx ⟨_,rfl,finB N K⟩
 | int i =>
  have e1:xv=.int i:=qx
  subst e1
  exact Xc (Xb (X:=X.wish E)) N.inv rx ⟨_,rfl,finB N K⟩
 | str y =>
  have e1:xv=.str y:=qx
  subst e1
  dsimp only[tru] at K
  split at K
  ·rename_i hz
   exact Xc (Xb (X:=X.wish E)) N.inv rx ⟨_,⟨hz,rfl⟩,finB N K⟩
  ·exact Zf K
 | tup xs =>
  obtain⟨a,vs,e1,sa,ra⟩:=qx
  subst e1
  exact Xc (Xb (X:=X.wish E)) N.inv rx ⟨!xs.isEmpty,.inr (.inl ⟨vs,sa,by rw[ra.empty]⟩),finB N K⟩
 | rol xs =>
  obtain⟨a,vs,e1,sa,ra⟩:=qx
  subst e1
  exact Xc (Xb (X:=X.wish E)) N.inv rx ⟨!xs.isEmpty,.inl ⟨vs,sa.sq,by rw[ra.empty]⟩,finB N K⟩
 | ref i =>
  obtain⟨a,e1,ha⟩:=qx
  subst e1
  dsimp only[tru] at K
  cases hi:h[i]? with
  | none=>rw[hi] at K;exact Zf K
  | some oi =>
   rw[hi] at K
   cases oi with
   | lst xs =>
    obtain⟨vs,e1,r1⟩:=N.at hi ha
    exact Xc (Xb (X:=X.wish E)) N.inv rx ⟨!xs.isEmpty,.inl ⟨vs,SqL.of e1,by rw[r1.empty]⟩,finB N K⟩
   | dct kvs =>
    obtain⟨vs,e1,r1⟩:=N.at hi ha
    exact Xc (Xb (X:=X.wish E)) N.inv rx ⟨!kvs.isEmpty,.inr (.inr ⟨vs,e1,by rw[r1.empty]⟩),finB N K⟩
   | _=>exact Zf K
def J8 (a:A1):E1:=λ σ h=>(a σ h).bind λ xs h1=>if xs.length<=sizeLine then .ok (.tup xs) h1 else .stuck
def Jw (a:A1):E1:=λ σ h=>(a σ h).bind λ xs h1=>if xs.length<=sizeLine then .ok (.ref h1.length) (h1++[.lst xs]) else .stuck
variable {es:List Expr}{mr:A1}{pos:Pos}
theorem J3f {x1}(hr:PAi ce X es mr):PEi ce X (.Tuple es x1 pos) (J8 mr):=λ pj s σ H ι σi h Q E N K=>by
 refine wpAny_Tuple_spliced ((hr pos).run N K λ xs h1 us s1 H1 ι1 N1 n1 r1 K1=>?_)
 change Kont ce X RU pj ι1 σi σ H1 (if xs.length<=sizeLine then _ else _) Q E at K1
 split at K1
 ·rename_i hz
  obtain⟨vs,rv,qs⟩:=r1
  have hl:=rv.length
  have hl2:=qs.length
  have hf:H1 s1.heap.objs.size=Zc:=N1.inv.hok.fresh (Zo _)
  refine⟨by rw[<- hl,hl2];exact hz,?_⟩
  exact finT N1 K1 s1.heap.objs.size hf qs _ _ (N1.inv.laid (t':=s1.toks) (λ b u e=>Zh _ e) (Zo _) ⟨by rw[hl2];exact hz,us,rv,⟨_,Z2 _ rfl,rfl,_,rfl⟩⟩) rfl
 ·exact Zf K1
theorem J3c (hr:PAi ce X es mr):PEi ce X (.List es pos) (Jw mr):=λ pj s σ H ι σi h Q E N K=>by
 refine wpAny_List_spliced ((hr pos).run N K λ xs h1 us s1 H1 ι1 N1 n1 r1 K1=>?_)
 change Kont ce X RU pj ι1 σi σ H1 (if xs.length<=sizeLine then _ else _) Q E at K1
 split at K1
 ·rename_i hz
  obtain⟨vs,rv,qs⟩:=r1
  have hl:=rv.length
  have hl2:=qs.length
  have hf:H1 s1.heap.objs.size=Zc:=N1.inv.hok.fresh (Zo _)
  refine⟨by rw[<- hl,hl2];exact hz,?_⟩
  exact finA N1 K1 s1.heap.objs.size hf ⟨_,J7,RVs.new hf qs⟩ _ _ (N1.inv.laid (t':=s1.toks) (λ b u e=>Zh _ e) (Zo _) ⟨by rw[hl2];exact hz,us,0,rv,Z2 _ rfl⟩) rfl
 ·exact Zf K1
end
section
variable {prog:ZA}{w:ZW}{A:ZO}{E:QvT}{s:Zl}
theorem Jlh (hne:t≠it):∀(n i:Nat)(s:Zl)(Q:List Ze->Zl->Prop),s.heap.IsListIter it t i->s.heap.IsList t items->i+n<=items.size ->
  (∀h',h'.IsListIter it t (i+n)->Zc3 it s.heap h'->Q ((items.toList.drop i).take n) { s with heap:=h' })->Zx (Z8 prog w) A (draw (.ref it) n) Q E s
 | 0,i,s,Q,hit,_,_,hQ=>by
  show Zx _ _ (pure []) Q E s
  exact Z0 (by simpa using hQ s.heap hit (Heap.SameBut.refl ..))
 | n+1,i,s,Q,hit,ht,hle,hQ=>by
  have hlt:i<items.size:=by omega
  show Zx _ _ (ZbU (.ref it)>>=_) Q E s
  refine Zd (ZdF hit ht (x:=items[i]) (by simp[hlt]) λ h₁ hit₁ hs₁=>?_)
  refine Zd (Zah (Jlh hne n (i+1) _ _ hit₁ (ht.extBut hs₁.extBut hne) (by omega) λ h₂ hit₂ hs₂=>Z0 ?_))
  have hd:items.toList.drop i=items[i]::items.toList.drop (i+1):=by simp[Zbc,hlt]
  have:=hQ h₂ (by rw[show i+(n+1)=i+1+n by omega];exact hit₂) (hs₁.trans hs₂)
  rw[hd,List.take_succ_cons] at this
  exact this
theorem Jgt {Q:List Ze->Zl->Prop}(hh:A.handled=Zc)(ht:s.heap.IsList t items) 
  (hQ:∀h',Heap.ExtBut s.heap.objs.size s.heap h'->Q items.toList { s with heap:=h' }):Zx (Z8 prog w) A (unpackItems (.ref t) items.size Zc) Q E s:=by
 have hlt:t≠s.heap.objs.size:=by obtain⟨o,ho,_⟩:=ht;exact Z5 (Z1 ho)
 unfold unpackItems
 refine Zd ?_
 ·unfold notIterableAtAll
  refine Zd (wpAny_specialOf ht.typeIs slot_list_iter.lookup ?_)
  refine Z0 ?_
  simp only[Zaa,if_false]
  refine Zd (Zah (ZaU ht ?_))
  refine Zd (Zah (Jlh hlt items.size 0 _ _ ⟨_,Z2 _ rfl,rfl,rfl⟩ (ht.push _) (by omega) λ h₁ hit₁ hs₁=>?_))
  have hall:List.take items.size (List.drop 0 items.toList)=items.toList:=by
   rw[List.drop_zero];exact Zaz (by simp)
  rw[hall]
  rw[if_neg (by simp)]
  have ht₁:h₁.IsList t items:=(ht.push _).extBut hs₁.extBut hlt
  refine Zd (Zah (ZdP hh hit₁ ht₁ (by simp) λ h₂ he₂=>?_))
  simp only[Option.isSome_none,Zaa,if_false]
  refine Z0 (hQ h₂ λ b o hb e=>he₂ b o hb (hs₁.extBut b o hb (Zh _ e)))
theorem Jfv {env:Env}{elts:List Expr}{x1}{pos:Pos}{t:Zm}{items:Array Ze}{Q:Unit->Zl->Prop}(hh:A.handled=Zc)(ht:s.heap.IsList t items)
  (hn:(ZaE elts env).length=items.size)(hstar:(ZaE elts env).findIdx? (·.1)=Zc)
  (h:∀h',Heap.ExtBut s.heap.objs.size s.heap h'->Zx (Z8 prog w) A (Zei ((ZaE elts env).map (·.2)) items.toList) Q E { s with heap:=h' }) :
  Zx (Z8 prog w) A (ZdJ (.Tuple elts x1 pos) env (.ref t)) Q E s:=by
 rw[assign_Tuple]
 refine Zd (Zb9 ?_)
 unfold unpack
 rw[hn,hstar]
 exact Zd (Zah (Jgt hh ht h))
end
abbrev S1:=ISt->IH->SRes
structure Noted (L:Zm)(fs:List Zm)(e:Zm)(h h3:Zas):Prop where
 ex:∃oe vs T ts,h.get? e=Za oe/\oe.data=.fields vs/\1<vs.size/\h3.get? e=Za (ZaK (·.setIfInBounds 1 (.ref T)) oe)/\T≠e/\h.get? T=Zc/\h3.get? T=Za { cls:=.type "traceback",dict:=Zc,data:=.fields ts }/\ts[3]?=Za (ZbK L)
 slot:∀b o,h.get? b=Za o->b≠e->∃sl,h3.get? b=Za { o with slots:=sl }
 keep:∀b o,h.get? b=Za o->b≠e->b∉fs->h3.get? b=Za o
def Fly (L:Zm)(fs:List Zm)(e:Zm)(s s1:Zl):Prop:=s1=s∨∃h',s1={ s with heap:=h' }/\Noted L fs e s.heap h'
def JL (ce:CeT)(X:Cx)(pj:PnT)(ι:List Zm)(H:Hp)(r:SRes)(Q:Flow->Zl->Prop)(E:QvT):Prop :=
 match r with
 | .next σi' h'=>∀s' σ' H' ι',Now ce X pj ι' σi' h' σ' H' s'->Nxt ι H ι' H'->Q .next s'
 | .brk σi' h'=>∀s' σ' H' ι',Now ce X pj ι' σi' h' σ' H' s'->Nxt ι H ι' H'->Q .brk s'
 | .cont σi' h'=>∀s' σ' H' ι',Now ce X pj ι' σi' h' σ' H' s'->Nxt ι H ι' H'->Q .cont s'
 | .ret v h'=>∀u s' σi' σ' H' ι',Now ce X pj ι' σi' h' σ' H' s'->Nxt ι H ι' H'->RU X.K ι' H' v u->Q (.ret u) s'
 | .exc n σi' h'=>∀pl a s' σ' H' ι',Now ce X (pj++pl) ι' σi' h' σ' H' s'->Nxt ι H ι' H'->ι'[n]?=Za a->∀s1,Fly X.env.locals (frs X.stack) a s' s1->E (.ref a) s1
 | .stuck=>False
theorem JL.mono (k:JL ce X pj ι H r Q E)(n:Nxt ι H ι' H'):JL ce X pj ι' H' r Q E:=by
 cases r with
 | next σ h=>exact λ s' σ' H2 ι2 N n2=>k s' σ' H2 ι2 N (n.trans n2)
 | brk σ h=>exact λ s' σ' H2 ι2 N n2=>k s' σ' H2 ι2 N (n.trans n2)
 | cont σ h=>exact λ s' σ' H2 ι2 N n2=>k s' σ' H2 ι2 N (n.trans n2)
 | ret v h=>exact λ u s' σi' σ' H2 ι2 N n2=>k u s' σi' σ' H2 ι2 N (n.trans n2)
 | exc m σ h=>exact λ pl a s' σ' H2 ι2 N n2=>k pl a s' σ' H2 ι2 N (n.trans n2)
 | stuck=>exact k
def PSi (ce:CeT)(X:Cx)(t:Sem Flow)(m:S1):Prop :=
 ∀(pj:PnT)(s:Zl)(σ:L2.St)(H:Hp)(ι:List Zm)(σi:ISt)(h:IH)(Q:Flow->Zl->Prop)(E:QvT),Now ce X pj ι σi h σ H s->JL ce X pj ι H (m σi h) Q E->Zx (Z8 X.prog X.w) X.A t Q E s
abbrev PS1 (ce:CeT)(X:Cx)(st:Zdi)(m:S1):Prop:=PSi ce X (exec st X.env) m
abbrev PS2 (ce:CeT)(X:Cx)(sts:List Zdi)(m:S1):Prop:=PSi ce X (execs sts X.env) m
noncomputable def Jp:S1:=λ σ h=>.next σ h
def Jg (a b:S1):S1:=λ σ h=>match a σ h with
 | .next σ' h'=>b σ' h'
 | r=>r
noncomputable def Jy0:S1:=λ σ h=>.next σ h
def Jwr:S1:=λ σ h=>.brk σ h
def J1x:S1:=λ σ h=>.cont σ h
noncomputable def rS {α:Type}(σ:ISt)(r:Res α)(k:α->IH->SRes):SRes:=match r with
 | .ok a h=>k a h
 | .exc n h=>.exc n σ h
 | .stuck=>.stuck
def JD (e:E1):S1:=λ σ h=>rS σ (e σ h) λ _ h'=>.next σ h'
def Jj (e:E1):S1:=λ σ h=>rS σ (e σ h) λ v h'=>.ret v h'
noncomputable def Jy1:S1:=λ _ h=>.ret .non h
def sIf (t:T1)(a b:S1):S1:=λ σ h=>rS σ (t σ h) λ c h'=>if c then a σ h' else b σ h'
def Ji (i:Nat)(e:E1):S1:=λ σ h=>rS σ (e σ h) λ v h'=>.next (σ.set i (Za v)) h'
section
variable {ce:CeT}{X:Cx}{st:Zdi}{rest:List Zdi}{m m1 m2:S1}{e:Expr}{me:E1}{pos:Pos}
theorem krun {α β:Type}{R:REL α β}{t:Sem β}{mm:ISt->IH->Res α}(p:PX ce X R t mm){pj:PnT}{s:Zl}{σ:L2.St}{H:Hp}{ι:List Zm}{σi:ISt}{h:IH}(N:Now ce X pj ι σi h σ H s){g:α->IH->SRes}{Q:Flow->Zl->Prop}{E:QvT}{Q1:β->Zl->Prop}
  (K:JL ce X pj ι H (rS σi (mm σi h) g) Q E)
  (step:∀x h1 u s1 H1 ι1,Now ce X pj ι1 σi h1 σ H1 s1->Nxt ι H ι1 H1->R X.K ι1 H1 x u->JL ce X pj ι1 H1 (g x h1) Q E->Q1 u s1):Zx (Z8 X.prog X.w) X.A t Q1 E s:=by
 refine p pj s σ H ι σi h Q1 E N ?_
 cases e:mm σi h with
 | ok v h' =>
  rw[e] at K
  exact λ u s' H' ι' N' n' r=>step v h' u s' H' ι' N' n' r (JL.mono (r:=g v h') K n')
 | exc n h' =>
  rw[e] at K
  exact λ pl a s' H' ι' N' n' q=>K pl a s' σ H' ι' N' n' q s' (.inl rfl)
 | stuck =>
  rw[e] at K
  exact K
theorem J1v:PS2 ce X [] Jp:=λ _ s σ H ι _ _ _ _ N K=>ZcW (K s σ H ι N .refl)
theorem Jyy (h1:PS1 ce X st m1)(h2:PS2 ce X rest m2):PS2 ce X (st::rest) (Jg m1 m2):=by
 intro pj s σ H ι σi h Q E N K
 refine wpAny_execs_cons (h1 pj s σ H ι σi h _ E N ?_)
 unfold Jg at K
 cases e:m1 σi h with
 | next σ' h' =>
  rw[e] at K
  exact λ s' σ2 H' ι' N' n'=>h2 pj s' σ2 H' ι' σ' h' Q E N' (JL.mono (r:=m2 σ' h') K n')
 | brk σ' h'=>rw[e] at K;exact K
 | cont σ' h'=>rw[e] at K;exact K
 | ret v h'=>rw[e] at K;exact K
 | exc n σ' h'=>rw[e] at K;exact K
 | stuck=>rw[e] at K;exact K
theorem J1w (h1:PS1 ce X st m1):PS2 ce X [st] m1:=by
 intro pj s σ H ι σi h Q E N K
 refine wpAny_execs_cons (h1 pj s σ H ι σi h _ E N ?_)
 cases e:m1 σi h with
 | next σ' h' =>
  rw[e] at K
  exact λ s' σ2 H' ι' N' n'=>ZcW (K s' σ2 H' ι' N' n')
 | brk σ' h'=>rw[e] at K;exact K
 | cont σ' h'=>rw[e] at K;exact K
 | ret v h'=>rw[e] at K;exact K
 | exc n σ' h'=>rw[e] at K;exact K
 | stuck=>rw[e] at K;exact K
theorem J12:PS1 ce X (.Pass pos) Jy0:=λ _ s σ H ι _ _ _ _ N K=>wpAny_Pass (K s σ H ι N .refl)
theorem Jy2:PS1 ce X (.Break pos) Jwr:=λ _ s σ H ι _ _ _ _ N K=>wpAny_Break (K s σ H ι N .refl)
theorem J10:PS1 ce X (.Continue pos) J1x:=λ _ s σ H ι _ _ _ _ N K=>wpAny_Continue (K s σ H ι N .refl)
theorem J11 (he:PEi ce X e me)(hs:Zdg e Zc pos.line X.env=pure Zj:=by rfl):PS1 ce X (.Expr e pos) (JD me):=λ pj s σ H ι σi h Q E N K =>
 wpAny_Expr_any (krun he N K λ x h1 u s1 H1 ι1 N1 n1 r1 K1=>K1 s1 σ H1 ι1 N1 .refl) N.inv.quiet hs
theorem J39 (he:PEi ce X e me):PS1 ce X (.Return (Za e) pos) (Jj me):=λ pj s σ H ι σi h Q E N K =>
 wpAny_Return_some (krun he N K λ x h1 u s1 H1 ι1 N1 n1 r1 K1=>K1 u s1 σi σ H1 ι1 N1 .refl r1)
theorem J13:PS1 ce X (.Return Zc pos) Jy1:=λ pj s σ H ι σi h Q E N K=>wpAny_Return_none (K .none s σi σ H ι N .refl ⟨.non,rfl,rfl⟩)
theorem s_if {c:Expr}{a b:List Zdi}{mt:T1}(hc:PTi ce X c mt)(ha:PS2 ce X a m1)(hb:PS2 ce X b m2):PS1 ce X (.If c a b pos) (sIf mt m1 m2):=λ pj s σ H ι σi h Q E N K =>
 wpAny_If (krun hc N K λ x h1 u s1 H1 ι1 N1 n1 r1 K1=>by
  have r':u=x:=r1
  subst r'
  cases u with
  | true=>exact ha pj s1 σ H1 ι1 σi h1 Q E N1 K1
  | false=>exact hb pj s1 σ H1 ι1 σi h1 Q E N1 K1)
theorem J14 {i:Nat}{x:Str}{pos':Pos}(hN:X.N.Nodup)(he:PEi ce X e me)(hi:X.N[i]?=Za x:=by rfl)(hx:Loc X.env.scope x:=by assumption)(hs:Zdg e (Za (.Name x pos')) pos.line X.env=pure Zj:=by rfl)
  (hf:X.fn x=Zg∨X.env.scope.names.lookup x=Za .local:=by assumption):PS1 ce X (.Assign [.Name x pos'] e pos) (Ji i me):=λ pj s σ H ι σi h Q E N K =>
 wpAny_Assign_Name (krun he N K λ v h1 u s1 H1 ι1 N1 n1 r1 K1=>by
  obtain⟨w,rw',q⟩:=r1
  exact Jg3 N1.inv hN hi hx rw' (λ s2 I2=>K1 s2 _ H1 ι1 ⟨I2,N1.rel,N1.st.set i q⟩ .refl) hf) hs
abbrev G1:=IV->ISt->IH->SRes
def PGi (ce:CeT)(X:Cx)(tg:Expr)(g:G1):Prop :=
 ∀(pj:PnT)(s:Zl)(σ:L2.St)(H:Hp)(ι:List Zm)(σi:ISt)(h:IH)(v:IV)(u:Ze)(Q:Flow->Zl->Prop)(E:QvT),Now ce X pj ι σi h σ H s->RU X.K ι H v u->JL ce X pj ι H (g v σi h) Q E ->
  Zx (Z8 X.prog X.w) X.A (ZdJ tg X.env u) (λ _ s'=>Q .next s') E s
noncomputable def gNm (i:Nat):G1:=λ v σ h=>.next (σ.set i (Za v)) h
theorem g_nm (hN:X.N.Nodup)(hi:X.N[i]?=Za x:=by rfl)(hx:Loc X.env.scope x:=by assumption)(hf:X.fn x=Zg∨X.env.scope.names.lookup x=Za .local:=by assumption):PGi ce X (.Name x pos) (gNm i):=by
 intro pj s σ H ι σi h v u Q E N r K
 obtain⟨w,rw',q⟩:=r
 exact wpAny_assign_Name (Jg3 N.inv hN hi hx rw' (λ s2 I2=>K s2 _ H ι ⟨I2,N.rel,N.st.set i q⟩ .refl) hf)
def PGsi (ce:CeT)(X:Cx)(ts:List Expr)(g:List IV->ISt->IH->SRes):Prop :=
 ∀(pj:PnT)(s:Zl)(σ:L2.St)(H:Hp)(ι:List Zm)(σi:ISt)(h:IH)(vs:List IV)(us:List Ze)(Q:Flow->Zl->Prop)(E:QvT),Now ce X pj ι σi h σ H s->RUs X.K ι H vs us->JL ce X pj ι H (g vs σi h) Q E ->
  Zx (Z8 X.prog X.w) X.A (Zei ((ZaE ts X.env).map (·.2)) us) (λ _ s'=>Q .next s') E s
noncomputable def gN:List IV->ISt->IH->SRes
 | [],σ,h=>.next σ h
 | _::_,_,_=>.stuck
def gC (g:G1)(r:List IV->ISt->IH->SRes):List IV->ISt->IH->SRes
 | v::vs,σ,h=>match g v σ h with
  | .next σ' h'=>r vs σ' h'
  | .exc n σ' h'=>.exc n σ' h'
  | _=>.stuck
 | [],_,_=>.stuck
theorem J0c:PGsi ce X [] gN:=by
 intro pj s σ H ι σi h vs us Q E N r K
 cases vs with
 | nil =>
  obtain⟨xs,rv,q⟩:=r
  have e1:xs=[]:=q
  subst e1
  cases rv
  exact assignInOrder_nil (K s σ H ι N .refl)
 | cons v vs=>exact Zf K
theorem Jxz {tg:Expr}{ts:List Expr}{g:G1}{r:List IV->ISt->IH->SRes}(h1:PGi ce X tg g)(h2:PGsi ce X ts r)
  (hs:(ZaE (tg::ts) X.env).map (·.2)=ZdJ tg X.env::(ZaE ts X.env).map (·.2):=by rfl):PGsi ce X (tg::ts) (gC g r):=by
 intro pj s σ H ι σi h vs us Q E N ru K
 cases vs with
 | nil=>exact Zf K
 | cons v vs =>
  obtain⟨xs,rv,x,xr,e1,q,qs⟩:=ru
  subst e1
  cases rv with
  | cons r1 r2 =>
   rw[hs]
   refine assignInOrder_cons (h1 pj s σ H ι σi h v _ (λ f s'=>Zx (Z8 X.prog X.w) X.A (Zei ((ZaE ts X.env).map (·.2)) _) (λ _ s'=>Q .next s') E s') E N ⟨x,r1,q⟩ ?_)
   have K':JL ce X pj ι H (match g v σi h with|.next σ' h'=>r vs σ' h'|.exc n σ' h'=>.exc n σ' h'|_=>.stuck) Q E:=K
   cases e:g v σi h with
   | next σ' h' =>
    rw[e] at K'
    exact λ s' σ2 H' ι' N' n'=>h2 pj s' σ2 H' ι' σ' h' vs _ Q E N' ⟨xr,r2,RVs.mono n' _ _ qs⟩ (JL.mono (r:=r vs σ' h') K' n')
   | exc n σ' h'=>rw[e] at K';exact K'
   | _=>rw[e] at K';exact(show False from K').elim
def gTp (n:Nat)(g:List IV->ISt->IH->SRes):G1:=λ v σ h=>match v with
 | .tup xs=>if xs.length=n then g xs σ h else .stuck
 | .ref i=>(match h[i]? with
  | some (.lst xs)=>if xs.length=n then g xs σ h else .stuck
  | _=>.stuck)
 | _=>.stuck
theorem J22 {es:List Expr}{k n:Nat}{g:List IV->ISt->IH->SRes}(hc:X.calm=Zg)(hg:PGsi ce X es g)(hn:(ZaE es X.env).length=n:=by rfl)(hst:(ZaE es X.env).findIdx? (·.1)=Zc:=by rfl):PGi ce X (.Tuple es k pos) (gTp n g):=by
 intro pj s σ H ι σi h v u Q E N r K
 obtain⟨w,rw',q⟩:=r
 cases v with
 | tup xs =>
  obtain⟨a,vs,e1,sa,ra⟩:=q
  subst e1
  cases rw'
  unfold gTp at K
  dsimp only at K
  split at K
  ·rename_i hl
   obtain⟨its,rv,ht,hz⟩:=N.inv.tuple sa
   have l1:=ra.length
   have l2:=rv.length
   refine assign_Tuple_tuple (N.inv.ok.hd hc) ht (by simp only[Zu];omega) hst λ h' hx=>?_
   have I1:Inv X pj σ H { s with heap:=h' }:=N.inv.kept (t':=s.toks) λ b o e=>hx b o (Z5 (Z1 e)) e
   exact hg pj _ σ H ι σi h xs _ Q E ⟨I1,N.rel,N.st⟩ ⟨vs,by simpa using rv,ra⟩ K
  ·exact Zf K
 | ref i =>
  obtain⟨a,e1,ha⟩:=q
  subst e1
  cases rw'
  unfold gTp at K
  dsimp only at K
  cases hi:h[i]? with
  | none=>rw[hi] at K;exact Zf K
  | some ob =>
   rw[hi] at K
   cases ob with
   | lst xs =>
    dsimp only at K
    split at K
    ·rename_i hl
     obtain⟨vs,g1,ra⟩:=N.at hi ha
     obtain⟨its,rv,ht,hz⟩:=N.inv.list (SqL.of g1)
     have l1:=ra.length
     have l2:=rv.length
     refine Jfv (N.inv.ok.hd hc) ht.isList (by simp only[Zu];omega) hst λ h' hx=>?_
     have I1:Inv X pj σ H { s with heap:=h' }:=N.inv.kept (t':=s.toks) λ b o e=>hx b o (Z5 (Z1 e)) e
     exact hg pj _ σ H ι σi h xs _ Q E ⟨I1,N.rel,N.st⟩ ⟨vs,by simpa using rv,ra⟩ K
    ·exact Zf K
   | _=>exact Zf K
 | _=>exact Zf K
def sAsg (e:E1)(g:G1):S1:=λ σ h=>rS σ (e σ h) λ v h'=>g v σ h'
theorem J35 {tg:Expr}{g:G1}(he:PEi ce X e me)(hg:PGi ce X tg g)(hs:swapsWithSole [tg] e pos.line X.env=pure Zj:=by rfl)(hw:swappedStores [tg] e X.env=pure Zc:=by rfl)
  (h1:(ZaE [tg] X.env).map (·.2)=[ZdJ tg X.env]:=by rfl):PS1 ce X (.Assign [tg] e pos) (sAsg me g):=λ pj s σ H ι σi h Q E N K =>
 wpAny_Assign_stores (krun he N K λ v h2 u s1 H1 ι1 N1 n1 r1 K1=>by
  rw[h1]
  exact hg pj s1 σ H1 ι1 σi h2 v u Q E N1 r1 K1) hs hw
end
theorem ExF.ok {h:Zas}(e:h.get? a=Za oe)(c:oe.cls=.ref C)(d:oe.data=.fields vs)(v:vs[1]?=Za tv)(v2:vs[2]?=Za .none)(v3:oe.dict=dd):JM P w H h a (ExF a C tv dd) :=
 ⟨⟨oe,vs,e,c,d,v,v2,v3⟩,⟨oe,e⟩,λ _ _ ⟨o,us,e1,r⟩ k=>⟨o,us,k _ e1,r⟩⟩
theorem ExF.get (x:HOk P w H h)(e:H a=Za (ExF a C tv d)):∃oe vs,h.get? a=Za oe/\oe.cls=.ref C/\oe.data=.fields vs/\vs[1]?=Za tv/\vs[2]?=Za .none/\oe.dict=d :=
 (x a _ e).1
theorem Jrg (o:Obj)(f:Array Ze->Array Ze):(o.mapFields f).dict=o.dict:=by
 unfold ZaK
 split<;>rfl
theorem J1e:∀{o:HO},JM P w H h a o->∃u,h.get? a=Za u
 | .lst _,⟨_,_,_,_,e⟩=>⟨_,e⟩
 | .tup _,⟨_,_,_,⟨_,e,_⟩⟩=>⟨_,e⟩
 | .dK _,⟨_,_,_,_,o,_,_,e,_⟩=>⟨o,e⟩
 | .dT _,⟨_,_,_,_,o,_,_,e,_⟩=>⟨o,e⟩
 | .set _ _,⟨o,_,_,_,e,_⟩=>⟨o,e⟩
 | .ins _ _ _,⟨_,_,_,e,_⟩=>⟨_,e⟩
 | .own _,⟨_,e⟩=>⟨_,e⟩
 | .xd _,⟨_,⟨_,_,_,e,_⟩,_⟩=>⟨_,e⟩
 | .rng _ _,⟨_,_,_,e⟩=>⟨_,e⟩
 | .frz _ _,⟨e,_⟩=>⟨_,e⟩
 | .tbl _,e=>⟨_,(show h.get? a=Za _ from e)⟩
 | .met _ _,e=>⟨_,(show h.get? a=Za _ from e)⟩
 | .ext _,⟨_,⟨_,e⟩,_⟩=>⟨_,e⟩
theorem Js5 {h:Zas}{T:Zm}{oT:Obj}{ts:Array Ze}{v:Ze}(e:h.get? T=Za oT)(d:oT.data=.fields ts)(q:ts[3]?=Za v):(h.update T (ZaK (·.setIfInBounds 3 v))).get? T=Za oT:=by
 have es:ts.setIfInBounds 3 v=ts:=by
  refine Array.ext (by simp) λ i h1 h2=>?_
  rw[Array.getElem_setIfInBounds]
  split
  ·rename_i z
   subst z
   rw[Zcd h2] at q
   exact(Zaj q).symm
  ·rfl
 have eo:ZaK (·.setIfInBounds 3 v) oT=oT:=by
  obtain⟨c,dd,dt,sl⟩:=oT
  have d:dt=.fields ts:=d
  subst d
  simp only[ZaK,es]
 rw[Za5 _ e (by rw[eo];exact ZcF d),eo]
section
variable {X:Cx}{pj:PnT}{σ:L2.St}{H:Hp}{s:Zl}{M:Model}{E:QvT}{Q:Unit->Zl->Prop}{a C:Zm}{tv:Ze}{d:Option Zm}{h3:Zas}{s1:Zl}
structure Past (X:Cx)(H:Hp)(h:Zas)(a C:Zm)(d:Option Zm)(T:Zm)(oT:Obj)(h':Zas):Prop where
 new:H T=Zc
 ne:T≠a
 fld:∃ts,oT.data=.fields ts/\ts[3]?=Za .none
 un:Un (frs X.stack) [] H (upd (upd H T (.frz oT (.own 0))) a (ExF a C (.ref T) d)) h h'
 hok:HOk X.prog X.w (upd (upd H T (.frz oT (.own 0))) a (ExF a C (.ref T) d)) h'
theorem Jom (I:Inv X pj σ H s)(hs:X.stack=X.env::X.outer)(hf:X.env.frame=Za X.env.locals)(ha:H a=Za (ExF a C tv d))(ht:TvOk H tv) 
  (k:∀h3,Noted X.env.locals (frs X.stack) a s.heap h3->Q () { s with heap:=h3 }):Zx M X.A (Zd6 (.ref a) X.env) Q E s:=by
 obtain⟨oe,vs,e1,e2,e3,e4,e5,e6⟩:=ExF.get I.hok ha
 have hfa:a∉frs X.stack:=λ z=>by rw[I.stkFree a z] at ha;cases ha
 have fr:=I.ok.frames
 have ff:s.heap.FunFrames X.base X.stack:=I.stack
 have len1:1<vs.size:=(Zbu.mp e4).1
 have go:∀(h:Zas){head:Ze}{hn:Bool},(∀b,h.get? b=s.heap.get? b)->Zx M X.A (do let f<-frameOf X.env;let pl<-entryPlaceOf X.env.locals hn;let b<-EntryCells.newEntry head f .none (ZbK X.env.locals) .none pl;setField (.ref a) 1 b) Q E { s with heap:=h }:=by
  intro h head hn hh
  have ffh:h.FunFrames X.base X.stack:=ff.of_keeps λ b o q _=>⟨o,(hh b).trans q,rfl⟩
  rw[hs] at fr ffh
  refine Zd (wpAny_frameOf_fun (s:={ s with heap:=h }) fr ffh hf λ h1 so=>?_)
  have he1:h1.get? a=Za oe:=(so.2.1 a (by rw[hs] at hfa;exact hfa)).trans ((hh a).trans e1)
  refine Zd (wpAny_entryPlaceOf λ pl hpl=>?_)
  unfold EntryCells.newEntry newFields
  refine Zd (wpAny_newObj_type ?_ (hpl.sizeOk5 _ _ _ _ _))
  have t3:([head,Zdf X.env.locals,ZV,ZbK X.env.locals,ZV]++(if pl.isEmpty then ZS 6 ZV else pl)).toArray[3]?=Za (ZbK X.env.locals):=by simp
  generalize ([head,Zdf X.env.locals,ZV,ZbK X.env.locals,ZV]++(if pl.isEmpty then ZS 6 ZV else pl)).toArray=ts at t3 ⊢
  have lt2:∀b o,h1.get? b=Za o->b≠h1.objs.size:=λ b o q=>Z5 (Z1 q)
  have nT:h1.objs.size≠a:=ZQ (lt2 a _ he1)
  have up2:∀b o,h1.get? b=Za o->(h1.push { cls:=.type "traceback",dict:=Zc,data:=.fields ts }).get? b=Za o:=λ b o q=>Zh _ q
  have gT2:(h1.push { cls:=.type "traceback",dict:=Zc,data:=.fields ts }).get? h1.objs.size=Za { cls:=.type "traceback",dict:=Zc,data:=.fields ts }:=Z2 h1 rfl
  refine Zdn (up2 _ _ he1) e3 len1 (k _ ⟨⟨oe,vs,h1.objs.size,ts,e1,e3,len1,Za5 _ (up2 _ _ he1) (ZcF (ZaP e3 _)),nT,?_,(Zw _ _ (ZQ nT)).trans gT2,t3⟩,λ b o q n=>?_,λ b o q n m=>?_⟩)
  ·cases q:s.heap.get? h1.objs.size with
   | none=>rfl
   | some o =>
    obtain⟨sl,z⟩:=so.2.2 _ _ ((hh _).trans q)
    exact absurd rfl (lt2 _ _ z)
  ·obtain⟨sl,z⟩:=so.2.2 _ _ ((hh b).trans q)
   exact⟨sl,(Zw _ _ (ZQ n)).trans (up2 _ _ z)⟩
  ·exact(Zw _ _ (ZQ n)).trans (up2 _ _ ((so.2.1 b (by rw[hs] at m;exact m)).trans ((hh b).trans q)))
 unfold Zd6
 rw[hf]
 refine Zd (Zcw e1 e3 e4 ?_)
 rcases ht with rfl|⟨T,oT,ts,rfl,q1,q2,q3⟩
 ·rw[if_neg (by decide)]
  exact go s.heap λ _=>rfl
 ·have gT:s.heap.get? T=Za oT:=(I.hok T _ q1).1
  rw[if_pos (by simp)]
  refine Zd (Zcw gT q2 q3 ?_)
  rw[if_neg (by simp[ZbK])]
  refine Zd (Zdn gT q2 (Zbu.mp q3).1 ?_)
  refine go _ λ b=>?_
  by_cases z:b=T
  ·subst z
   exact(Js5 gT q2 q3).trans gT.symm
  ·exact Zw _ _ (ZQ z)
theorem Jh4 {env:Env}(hf:env.frame=Za env.locals)(n:Noted env.locals fs a h h3)(q:Q () { s with heap:=h3 }):Zx M A (Zd6 (.ref a) env) Q E { s with heap:=h3 }:=by
 obtain⟨⟨oe,vs,T,ts,g1,g2,g3,g4,g5,g6,g7,g8⟩,_,_⟩:=n
 unfold Zd6
 rw[hf]
 refine Zd (Zcw (x:=.ref T) g4 (ZaP g2 _) (by simp[g3]) ?_)
 rw[if_pos (by simp)]
 refine Zd (Zcw g7 rfl g8 ?_)
 rw[if_pos (by simp)]
 exact Z0 q
theorem Jqb {env:Env}(hf:env.frame=Za env.locals)(n:Noted env.locals fs a h h3)(k:∀h4,Noted env.locals fs a h h4->E (.ref a) { s with heap:=h4 }):cameBackBy M A env E (.ref a) { s with heap:=h3 }:=by
 obtain⟨⟨oe,vs,T,ts,g1,g2,g3,g4,g5,g6,g7,g8⟩,sl,kp⟩:=n
 unfold cameBackBy
 refine Zd (Zcw (x:=.ref T) g4 (ZaP g2 _) (by simp[g3]) ?_)
 rw[if_neg (by simp)]
 rw[hf]
 unfold Ze4
 refine Zd (Zcw (x:=.ref T) g4 (ZaP g2 _) (by simp[g3]) ?_)
 rw[if_pos (by simp)]
 refine Zdn g7 rfl (Zbu.mp g8).1 ?_
 have up:∀b o,h3.get? b=Za o->(h3.update T (ZaK (·.setIfInBounds 3 (ZbK env.locals)))).get? b=Za o:=λ b o q=>by
  by_cases z:b=T
  ·subst z
   rw[g7] at q
   cases q
   exact Js5 g7 rfl g8
  ·exact(Zw _ _ (ZQ z)).trans q
 exact k _ ⟨⟨oe,vs,T,ts,g1,g2,g3,up _ _ g4,g5,g6,up _ _ g7,g8⟩,λ b o q n=>let ⟨s',z⟩:=sl b o q n;⟨s',up _ _ z⟩,λ b o q n m=>up _ _ (kp b o q n m)⟩
theorem Jja (I:Inv X pj σ H s)(ha:H a=Za (ExF a C tv d))(n:Noted L (frs X.stack) a s.heap h3)(k:∀T oT h',Past X H s.heap a C d T oT h'->Q () { s with heap:=h' }):Zx M X.A (Ze4 (.ref a) Zc) Q E { s with heap:=h3 }:=by
 obtain⟨⟨oe,vs,T,ts,g1,g2,g3,g4,g5,nT,g7,g8⟩,sl,kp⟩:=n
 obtain⟨oe',vs',x1,x2,x3,x4,x5,x6⟩:=ExF.get I.hok ha
 rw[g1] at x1
 cases x1
 rw[g2] at x3
 cases x3
 have hok:=I.hok
 have hfr:∀b∈frs X.stack,H b=Zc:=I.stkFree
 have hT:H T=Zc:=by
  cases q:H T with
  | none=>rfl
  | some u =>
   obtain⟨o,z⟩:=J1e (hok T u q)
   rw[nT] at z
   cases z
 have tz:3<ts.size:=(Zbu.mp g8).1
 unfold Ze4
 refine Zd (Zcw (x:=.ref T) g4 (ZaP g2 _) (by simp[g3]) ?_)
 rw[if_pos (by simp)]
 refine Zdn g7 rfl tz ?_
 have e1:=(Zw h3 (ZaK (·.setIfInBounds 3 ((Zc:Option Zm).elim ZV λ f=>ZbK f))) g5).trans g4
 have e7:=Za5 (ZaK (·.setIfInBounds 3 ((Zc:Option Zm).elim ZV λ f=>ZbK f))) g7 (ZcF (ZaP rfl _))
 have d7:=ZaP (o:={ cls:=.type "traceback",dict:=Zc,data:=.fields ts }) rfl (·.setIfInBounds 3 ((Zc:Option Zm).elim ZV λ f=>ZbK f))
 have lt:∀b o,s.heap.get? b=Za o->T≠b:=λ b o q z=>by rw[z,q] at nT;cases nT
 have keep:∀b o,s.heap.get? b=Za o->b≠a->b∉frs X.stack->(h3.update T (ZaK (·.setIfInBounds 3 ((Zc:Option Zm).elim ZV λ f=>ZbK f)))).get? b=Za o:=λ b o q n1 n2=>(Zw _ _ (lt b o q)).trans (kp b o q n1 n2)
 have slot:∀b o,s.heap.get? b=Za o->b≠a->∃sl,(h3.update T (ZaK (·.setIfInBounds 3 ((Zc:Option Zm).elim ZV λ f=>ZbK f)))).get? b=Za { o with slots:=sl }:=λ b o q n1=>let ⟨s',z⟩:=sl b o q n1;⟨s',(Zw _ _ (lt b o q)).trans z⟩
 generalize h3.update T (ZaK (·.setIfInBounds 3 ((Zc:Option Zm).elim ZV λ f=>ZbK f)))=h' at e1 e7 keep slot
 generalize ZaK (·.setIfInBounds 3 ((Zc:Option Zm).elim ZV λ f=>ZbK f)) { cls:=.type "traceback",dict:=Zc,data:=.fields ts }=oT at e7 d7
 have na:∀{b:Zm}{u:HO},H b=Za u->(∀φ,u≠.ext φ)->b≠a:=λ {b u} q n z=>by
  subst z
  rw[ha] at q
  cases q
  exact n _ rfl
 have nTb:∀{b:Zm}{u:HO},H b=Za u->b≠T:=λ {b u} q z=>by
  subst z
  rw[hT] at q
  cases q
 have up:∀{b:Zm}{u:HO},H b=Za u->(∀φ,u≠.ext φ)->upd (upd H T (.frz oT (.own 0))) a (ExF a C (.ref T) d) b=Za u:=λ {b u} q n=>by
  rw[Jr (na q n),Jr (nTb q)]
  exact q
 have fa:a∉frs X.stack:=λ z=>by rw[hfr a z] at ha;cases ha
 refine k T oT h' ⟨hT,g5,⟨_,d7,by simp[tz]⟩,⟨λ b o q n hb _=>keep b o q (λ z=>by subst z;rw[ha] at n;cases n) hb,λ b o q _ hb _=>slot b o q (λ z=>fa (z▸hb)),λ b o q n _=>?_,λ b o q _=>?_,λ b xs q=>up q nofun,λ b o u q=>up q nofun,λ b ps q=>⟨#[],by rw[up q nofun];simp⟩⟩,λ b u q=>?_⟩
 ·rw[Jr (λ z=>by subst z;rw[ha] at n;cases n),Jr (λ z=>by subst z;rw[nT] at q;cases q)]
  exact n
 ·by_cases z:b=a
  ·subst z
   exact⟨_,e1⟩
  ·obtain⟨sl,w⟩:=slot b o q z
   exact⟨_,w⟩
 ·by_cases z:b=a
  ·subst z
   rw[J7] at q
   cases q
   exact ExF.ok e1 ((Obj.cls_mapFields _ _).trans x2) (ZaP g2 _) (by simp[g3]) (by rw[Array.getElem?_setIfInBounds_ne (by decide)];exact x5) ((Jrg _ _).trans x6)
  ·rw[Jr z] at q
   by_cases y:b=T
   ·subst y
    rw[J7] at q
    cases q
    exact⟨e7,⟨oT,e7⟩⟩
   ·rw[Jr y] at q
    refine(hok b u q).stay (λ c v hc p=>?_) (λ c p=>up p nofun) λ c xs p=>up p nofun
    refine keep c v p ?_ ?_
    ·rcases hc with rfl|hc
     ·exact z
     ·exact na hc nofun
    ·intro m
     rcases hc with rfl|hc
     ·rw[hfr _ m] at q;cases q
     ·rw[hfr _ m] at hc;cases hc
theorem Jur (I:Inv X pj σ H s)(fl:Fly X.env.locals (frs X.stack) a s s1)(hs:X.stack=X.env::X.outer)(hf:X.env.frame=Za X.env.locals)(ha:H a=Za (ExF a C tv d))(ht:TvOk H tv) 
  (k:∀T oT h',Past X H s.heap a C d T oT h'->Q () { s with heap:=h' }):Zx M X.A (Zd6 (.ref a) X.env) (λ _ s'=>Zx M X.A (Ze4 (.ref a) Zc) Q E s') E s1:=by
 rcases fl with rfl|⟨h',rfl,n⟩
 ·exact Jom I hs hf ha ht λ h3 n=>Jja I ha n k
 ·exact Jh4 hf n (Jja I ha n k)
theorem Jsa (I:Inv X pj σ H s)(fl:Fly X.env.locals (frs X.stack) a s s1)(hs:X.stack=X.env::X.outer)(hf:X.env.frame=Za X.env.locals)(ha:H a=Za (ExF a C tv d))(ht:TvOk H tv) 
  (k:∀T oT h',Past X H s.heap a C d T oT h'->Q () { s with heap:=h' }):Zx M X.A (leaving X.env (.ref a)) Q E s1:=by
 unfold leaving
 exact Zd (Jur I fl hs hf ha ht k)
end
def CXI (P:ZA)(w:ZW):CXT:=λ outer H s E e s'=>∃H',s'.os=s.os/\Zdc s'.gens/\Un (frs outer) [] H H' s.heap s'.heap/\HOk P w H' s'.heap/\E e Zc H'
theorem Un.tail (a:Un fs [] H H1 h h1)(b:Un (L::fs) [] H1 H2 h1 h2)(n:h.get? L=Zc):Un fs [] H H2 h h2 where
 keep:=λ c o q m hc _=>b.keep c o (a.keep c o q m hc (by simp)) (a.free c o q m (by simp)) (λ z=>(Z6.mp z).elim (λ y=>by subst y;rw[n] at q;cases q) hc) (by simp)
 slot:=λ c o q m hc _=>by
  obtain⟨sl,e1⟩:=a.slot c o q m hc (by simp)
  obtain⟨sl',e2⟩:=b.any e1 (a.free c o q m (by simp)) (by simp)
  exact⟨sl',e2⟩
 free:=λ c o q m _=>by
  obtain⟨o',e1⟩:=a.there c o q (by simp)
  exact b.free c o' e1 (a.free c o q m (by simp)) (by simp)
 there:=λ c o q _=>by
  obtain⟨o',e1⟩:=a.there c o q (by simp)
  exact b.there c o' e1 (by simp)
 tups:=λ c xs q=>b.tups c xs (a.tups c xs q)
 frzs:=λ c o u q=>b.frzs c o u (a.frzs c o u q)
 tbls:=λ c ps q=>by
  obtain⟨m1,e1⟩:=a.tbls c ps q
  obtain⟨m2,e2⟩:=b.tbls c _ e1
  exact⟨m1++m2,by rw[e2,Array.append_assoc]⟩
section
variable {X:Cx}{pj:PnT}{σ:L2.St}{H:Hp}{s:Zl}{k:Nat}{f C:Zm}{fd:ZaD}{ps:List Str}{sp:Sp}{dvs:List V}{ds:List Ze}{E:XK}{Q:VK}{us:List Ze}{vs:List V}{W:QvT}
theorem Jwx (I:Inv X pj σ H s)(h:CXI X.prog X.w X.stack H s E e s'):∃H',Inv X pj σ H' s'/\E e Zc H':=by
 obtain⟨H',os,bare,un,hok,q⟩:=h
 exact⟨H',I.call' os un hok bare λ b z=>absurd z (by simp),q⟩
theorem Jyx (F:FnOk X.prog X.w X.K X.mg X.base (CXI X.prog X.w) k f fd ps sp)(hr:Room k X.A)(hb:Qo X.K fd ps ds)(hd:Vals dvs ds)(I:Inv X pj σ H s)(r:Vals vs us)(h:sp (vs++dvs) H Q E) 
  (hx:∀e s' H',Inv X pj σ H' s'->E e Zc H'->W e s'):Zx (Z8 X.prog X.w) X.A (call (.ref f) us) (EP X pj σ Q) W s:=by
 have ra:Vals (vs++dvs) (us++ds):=r.append hd
 have la:=ra.length
 have lf:=F.len _ _ _ _ h
 refine Zep (Zc9 (F.run _ _ _ _ ⟨us,[]⟩ _ _ _ _ hr I.env0 (hb s us I.kIn (by omega)) ra h) λ res s' q=>?_)
 match res,q with
 | .error e,q =>
  obtain⟨H',I',z⟩:=Jwx I q
  exact hx e s' H' I' z
 | .ok (.ret u),q=>exact I.after q
 | .ok .next,q=>exact Zbt q
 | .ok .brk,q=>exact Zbt q
 | .ok .cont,q=>exact Zbt q
theorem Jsv (M:Mk X.K C f)(F:FnOk X.prog X.w X.K X.mg X.base (CXI X.prog X.w) k f fd ps sp)(hr:Room (k+1) X.A)(hb:Qo X.K fd ps ds)(hd:Vals dvs ds)(I:Inv X pj σ H s)(r:Vals vs us) 
  (h:∀x dx,H x=Zc->H dx=Zc->dx≠x->sp (.ref x::(vs++dvs)) (upd (upd H dx (.own x)) x (.ins C dx [])) (λ v H2=>v=.non/\Q (.ref x) H2) E)
  (hx:∀e s' H',Inv X pj σ H' s'->E e Zc H'->W e s'):Zx (Z8 X.prog X.w) X.A (call (.ref C) us) (EP X pj σ Q) W s:=by
 have z0:=s.heap.objs.size
 have hq:=h (s.heap.objs.size+1) s.heap.objs.size (I.hok.fresh (ZaZ _)) (I.hok.fresh (Zo _)) (Z5 (Za2 _))
 have J:=Inv.made (C:=C) I
 have ra:Vals (V.ref (s.heap.objs.size+1)::(vs++dvs)) (Zdf (s.heap.objs.size+1)::(us++ds)):=.cons rfl (r.append hd)
 have la:=ra.length
 have lf:=F.len _ _ _ _ hq
 have hl:(Zdf (s.heap.objs.size+1)::us++ds).length=ps.length:=by
  rw[ZU]
  omega
 refine Zep (Juo (f:=f) I.kIn M.makes M.init (beq_iff_eq.mp M.fn) (Zc9 (F.run _ _ _ _ ⟨.ref (s.heap.objs.size+1)::us,[]⟩ _ _ _ _ (hr.make C us []) (J.env0.make C us []) (hb _ (.ref (s.heap.objs.size+1)::us) J.kIn hl) ra hq) λ res s' q=>?_))
 match res,q with
 | .error e,q =>
  obtain⟨H',I',z⟩:=Jwx J q
  exact hx e s' H' I' z
 | .ok (.ret u),q =>
  obtain⟨v,H',J3,rv,ev,q3⟩:=J.after q
  subst ev
  exact⟨rv,⟨V.ref (s.heap.objs.size+1),H',J3,rfl,q3⟩⟩
 | .ok .next,q=>exact Zbt q
 | .ok .brk,q=>exact Zbt q
 | .ok .cont,q=>exact Zbt q
end
structure ItI where
 xs:List IV
 chk:IH->Prop
open Classical in
def Qd (chk:IH->Prop)(g:G1)(b:S1):List IV->ISt->IH->SRes
 | [],σ,h=>if chk h then .next σ h else .stuck
 | x::xs,σ,h=>if chk h then(match g x σ h with
   | .next σ1 h1=>(match b σ1 h1 with
    | .next σ2 h2=>Qd chk g b xs σ2 h2
    | .cont σ2 h2=>Qd chk g b xs σ2 h2
    | .brk σ2 h2=>.next σ2 h2
    | .ret v h2=>.ret v h2
    | .exc n σ2 h2=>(match h2[n]? with
     | some (.exc _ _)=>.exc n σ2 h2
     | _=>.stuck)
    | _=>.stuck)
   | _=>.stuck) else .stuck
abbrev I1:=ISt->IH->Res ItI
def sFor (it:I1)(g:G1)(b:S1):S1:=λ σ h=>rS σ (it σ h) λ J h'=>Qd J.chk g b J.xs σ h'
structure ItOk (ce:CeT)(K:W.Frag)(ι:List Zm)(H₀:Hp)(J:It)(I:ItI):Prop where
 go:∀(k:Nat)(x:IV)(h:IH)(H:Hp)(ι':List Zm),Nxt ι H₀ ι' H->Rel ce K ι' h H->I.chk h->I.xs[k]?=Za x ->
  J.go k H/\∀y H',J.yld k H y H'->Rel ce K ι' h H'/\Nxt ι' H ι' H'/\RV K ι' H' x y
 stop:∀(k:Nat)(h:IH)(H:Hp)(ι':List Zm),Nxt ι H₀ ι' H->Rel ce K ι' h H->I.chk h->I.xs.length<=k->J.stop k H
theorem Rel.get {ce:CeT}{K:W.Frag}{ι:List Zm}{h:IH}{H:Hp}(R:Rel ce K ι h H){i:Nat}{o:IX}(e:h[i]?=Za o){a:Zm}(ha:ι[i]?=Za a):RO ce K ι H a o:=by
 obtain⟨b,e1,r⟩:=R.at_ i o e
 rw[ha] at e1
 cases e1
 exact r
def RIt (ce:CeT)(X:Cx)(tg:Expr)(pj:PnT)(ι':List Zm)(I:ItI)(itv:Ze)(s2:Zl)(H':Hp):Prop :=
 ∃(it:Zm)(fp:List Zm)(tn:Nat->Zas->Prop)(J:It),itv=.ref it/\Turn X.prog X.w X.K tg J fp it tn/\tn 0 s2.heap/\(∀b∈fp,FpOk X pj H' b)/\ItOk ce X.K ι' H' J I
def PIi (ce:CeT)(X:Cx)(tg iter:Expr)(m:I1):Prop :=
 ∀(pj:PnT)(s:Zl)(σ:L2.St)(H:Hp)(ι:List Zm)(σi:ISt)(h:IH)(Q:QvT)(E:QvT),Now ce X pj ι σi h σ H s ->
  (match m σi h with
   | .ok I h'=>∀itv s' H' ι',Now ce X pj ι' σi h' σ H' s'->Nxt ι H ι' H'->RIt ce X tg pj ι' I itv s' H'->Q itv s'
   | .exc n h'=>∀pl a s' H' ι',Now ce X (pj++pl) ι' σi h' σ H' s'->Nxt ι H ι' H'->ι'[n]?=Za a->E (.ref a) s'
   | .stuck=>False) ->
  Zx (Z8 X.prog X.w) X.A (Zbe iter X.env) (λ v s1=>Zx (Z8 X.prog X.w) X.A (Zen v) Q E s1) E s
section
variable {ce:CeT}{X:Cx}
theorem nof {M:Model}{A:ZO}{α:Type}{t:Sem α}{Q:α->Zl->Prop}{E:QvT}{s:Zl}(h:Zx M A t Q (λ _ _=>False) s):Zx M A t Q E s:=Zam h (λ _ _ x=>x) λ _ _ z=>z.elim
theorem Now.pins {pj:PnT}{pl:PnT}{ι:List Zm}{σi:ISt}{h:IH}{σ:L2.St}{H:Hp}{s:Zl}(N:Now ce X (pj++pl) ι σi h σ H s):Now ce X pj ι σi h σ H s:=⟨N.inv.unpinned,N.rel,N.st⟩
theorem J38 {tg iter:Expr}{body:List Zdi}{mi:I1}{g:G1}{mb:S1}{pos:Pos}(hc:X.calm=Zg)(hst:X.stack=X.env::X.outer)(hf:X.env.frame=Za X.env.locals)(hi:PIi ce X tg iter mi)(hg:PGi ce X tg g)(hb:PS2 ce X body mb)
  (hs:∀x,ZbS iter X.env x=pure x:=by intro _;rfl):PS1 ce X (.For tg iter body [] pos) (sFor mi g mb):=by
 intro pj s σ H ι σi h Q E N K
 refine wpAny_For (hi pj s σ H ι σi h _ E N ?_) hs
 unfold sFor at K
 cases e0:mi σi h with
 | exc n h'=>rw[e0] at K;exact λ pl a s' H' ι' N' n' q=>K pl a s' σ H' ι' N' n' q s' (.inl rfl)
 | stuck=>rw[e0] at K;exact K
 | ok I h' =>
  rw[e0] at K
  intro itv s2 H2 ι2 N2 n2 R
  obtain⟨it,fp,tn,J,e,T,st2,f2,OK⟩:=R
  subst e
  have stat:∀{H':Hp},(∀b∈fp,H' b=Zc)->∀b∈fp,FpOk X pj H' b:=λ hn b hb=>⟨hn b hb,(f2 b hb).2⟩
  have K2:JL ce X pj ι2 H2 (Qd I.chk g mb I.xs σi h') Q E:=JL.mono (r:=Qd I.chk g mb I.xs σi h') K n2
  refine codeAny_forLoop_any (λ n s'=>∃k ιk σk hk σ' H',Now ce X pj ιk σk hk σ' H' s'/\Nxt ι2 H2 ιk H'/\tn k s'.heap/\(∀b∈fp,H' b=Zc)/\n=I.xs.length-k/\k<=I.xs.length/\JL ce X pj ιk H' (Qd I.chk g mb (I.xs.drop k) σk hk) Q E) ?_ I.xs.length
   ⟨0,ι2,σi,h',σ,H2,N2,.refl,st2,λ b hb=>(f2 b hb).1,by simp,ZX _,by simpa using K2⟩
  rintro n s3 ⟨k,ιk,σk,hk,σ3,H3,N3,n3,st3,fr3,rfl,hkl,K3⟩
  by_cases hlt:k<I.xs.length
  ·-- a turn
   have hd:I.xs.drop k=I.xs[k]::I.xs.drop (k+1):=Zbc hlt
   rw[hd] at K3
   unfold Qd at K3
   split at K3
   ·rename_i hck
    obtain⟨go,yl⟩:=OK.go k I.xs[k] hk H3 ιk n3 N3.rel hck (Zb hlt)
    refine nof (thn (T.item X rfl rfl rfl hc k pj s3 σ3 H3 (λ _ _=>False) N3.inv (stat fr3) st3 go) λ r s4 ⟨u,hr,h4⟩=>?_)
    subst hr
    refine nof (thn h4 λ _ s5 ⟨x,H5,I5,r5,y5,st5,fr5⟩=>?_)
    obtain⟨R5,n5,q5⟩:=yl x H5 y5
    have I5':=I5.pinned (stat fr5) (T.obj _ _ st5)
    have N5:Now ce X (pj++QJ fp s5.heap) ιk σk hk σ3 H5 s5:=⟨I5',R5,N3.st.mono n5⟩
    cases eg:g I.xs[k] σk hk with
    | next σg hgg =>
     rw[eg] at K3
     dsimp only at K3
     refine nof (hg _ s5 σ3 H5 ιk σk hk _ u (λ _ s6=>Zx (Z8 X.prog X.w) X.A (execs body X.env) _ _ s6) (λ _ _=>False) N5 ⟨x,r5,q5⟩ ?_)
     rw[eg]
     intro s6 σ6 H6 ι6 N6 n6
     refine hb _ s6 σ6 H6 ι6 σg hgg _ _ N6 ?_
     have again:∀{σ7:L2.St}{H7:Hp}{s7:Zl}{σ7i:ISt}{h7:IH}{ι7:List Zm},Now ce X (pj++QJ fp s5.heap) ι7 σ7i h7 σ7 H7 s7->Nxt ι6 H6 ι7 H7->JL ce X pj ιk H3 (Qd I.chk g mb (I.xs.drop (k+1)) σ7i h7) Q E ->
       ∃m,m<I.xs.length-k/\∃k ιk σk hk σ' H',Now ce X pj ιk σk hk σ' H' s7/\Nxt ι2 H2 ιk H'/\tn k s7.heap/\(∀b∈fp,H' b=Zc)/\m=I.xs.length-k/\k<=I.xs.length/\JL ce X pj ιk H' (Qd I.chk g mb (I.xs.drop k) σk hk) Q E :=
      λ {σ7 H7 s7 σ7i h7 ι7} N7 n7 K7=>by
       have nn:Nxt ιk H3 ι7 H7:=(n5.trans n6).trans n7
       refine⟨I.xs.length-(k+1),by omega,k+1,ι7,σ7i,h7,σ7,H7,N7.pins,n3.trans nn,T.keep _ _ _ st5 λ b hb o e=>(N7.inv.pin (b,o) (Zn _ (Zn _ (Yx hb e)))).1,λ b hb=>?_,rfl,hlt,K7.mono nn⟩
       obtain⟨o,e,d⟩:=T.obj _ _ st5 b hb
       exact(N7.inv.pin (b,o) (Zn _ (Zn _ (Yx hb e)))).2.1
     cases eb:mb σg hgg with
     | next σ7i h7 =>
      rw[eb] at K3
      exact λ s7 σ7 H7 ι7 N7 n7=>again N7 n7 K3
     | cont σ7i h7 =>
      rw[eb] at K3
      exact λ s7 σ7 H7 ι7 N7 n7=>again N7 n7 K3
     | brk σ7i h7 =>
      rw[eb] at K3
      exact λ s7 σ7 H7 ι7 N7 n7=>K3 s7 σ7 H7 ι7 N7.pins ((n5.trans n6).trans n7)
     | ret v h7 =>
      rw[eb] at K3
      exact λ u s7 σ7i σ7 H7 ι7 N7 n7 r=>K3 u s7 σ7i σ7 H7 ι7 N7.pins ((n5.trans n6).trans n7) r
     | exc n σ7i h7 =>
      rw[eb] at K3
      dsimp only at K3
      cases hj:h7[n]? with
      | none=>rw[hj] at K3;exact Zf K3
      | some ob =>
       cases ob with
       | exc c fs =>
        rw[hj] at K3
        intro pl a s7 σ7 H7 ι7 N7 n7 q s8 fl
        obtain⟨C,tv,d,fe,hC,ha,ht⟩:=N7.rel.get hj q
        have back:∀h8,Noted X.env.locals (frs X.stack) a s7.heap h8->cameBackBy (Z8 X.prog X.w) X.A X.env E (.ref a) { s7 with heap:=h8 }:=λ h8 n8 =>
         Jqb hf n8 λ h9 n9=>K3 (QJ fp s5.heap++pl) a s7 σ7 H7 ι7 (by rw[<- ZZ];exact N7) ((n5.trans n6).trans n7) q _ (.inr ⟨h9,rfl,n9⟩)
        rcases fl with rfl|⟨h8,rfl,n8⟩
        ·exact Jom N7.inv hst hf ha ht back
        ·exact Jh4 hf n8 (back h8 n8)
       | _=>rw[hj] at K3;exact Zf K3
     | stuck=>rw[eb] at K3;exact Zf K3
    | _=>rw[eg] at K3;exact Zf K3
   ·exact Zf K3
  ·have hke:I.xs.drop k=[]:=ZcA (by omega)
   rw[hke] at K3
   unfold Qd at K3
   split at K3
   ·rename_i hck
    have stop:=OK.stop k hk H3 ιk n3 N3.rel hck (by omega)
    refine nof (thn (T.done X rfl rfl rfl hc k pj s3 σ3 H3 (λ _ _=>False) N3.inv (stat fr3) st3 stop) λ r s4 ⟨hr,I4⟩=>?_)
    subst hr
    exact ZcW (K3 s4 σ3 H3 ιk ⟨I4,N3.rel,N3.st⟩ .refl)
   ·exact Zf K3
noncomputable def itOf:IV->IH->Res ItI
 | .ref i,h=>match h[i]? with
  | some (.lst xs)=>.ok ⟨xs,λ h'=>h'[i]?=Za (.lst xs)⟩ h
  | _=>.stuck
 | .rol xs,h=>.ok ⟨xs,λ _=>True⟩ h
 | .tup xs,h=>.ok ⟨xs,λ _=>True⟩ h
 | _,_=>.stuck
def iVal (e:E1):I1:=λ σ h=>(e σ h).bind itOf
variable {tg:Expr}
theorem J0q {a:Zm}{i:Nat}{xs:List IV}{ι:List Zm}{H₀:Hp}(ha:ι[i]?=Za a):ItOk ce X.K ι H₀ (Itl X.K a) ⟨xs,λ h'=>h'[i]?=Za (.lst xs)⟩:=by
 refine⟨λ k x h H ι' hp R hck hx=>?_,λ k h H ι' hp R hck hx=>?_⟩
 ·obtain⟨vs,e1,r1⟩:=R.get hck (hp.at ha)
  obtain⟨v,hv,qv⟩:=r1.get hx
  refine⟨⟨vs,v,SqL.of e1,hv⟩,λ y H' hy=>?_⟩
  obtain⟨rfl,hy⟩:=hy
  have:=hy vs (SqL.of e1)
  rw[hv] at this
  cases this
  exact⟨R,.refl,qv⟩
 ·obtain⟨vs,e1,r1⟩:=R.get hck (hp.at ha)
  exact⟨vs,SqL.of e1,by rw[r1.length];exact hx⟩
theorem J0r {a:Zm}{xs:List IV}{vs:List V}{ι:List Zm}{H₀:Hp}(sa:SqR X.K H₀ a vs)(ra:RVs X.K ι H₀ xs vs):ItOk ce X.K ι H₀ (Itl X.K a) ⟨xs,λ _=>True⟩:=by
 refine⟨λ k x h H ι' hp R hck hx=>?_,λ k h H ι' hp R hck hx=>?_⟩
 ·obtain⟨v,hv,qv⟩:=ra.get hx
  have sq:=(hp.ext.sqR sa).sq
  refine⟨⟨vs,v,sq,hv⟩,λ y H' hy=>?_⟩
  obtain⟨rfl,hy⟩:=hy
  have:=hy vs sq
  rw[hv] at this
  cases this
  exact⟨R,.refl,RV.mono hp _ _ qv⟩
 ·exact⟨vs,(hp.ext.sqR sa).sq,by rw[ra.length];exact hx⟩
theorem J0s {a:Zm}{xs:List IV}{vs:List V}{ι:List Zm}{H₀:Hp}(sa:SqT X.K H₀ a vs)(ra:RVs X.K ι H₀ xs vs):ItOk ce X.K ι H₀ (Itt X.K a) ⟨xs,λ _=>True⟩:=by
 refine⟨λ k x h H ι' hp R hck hx=>?_,λ k h H ι' hp R hck hx=>?_⟩
 ·obtain⟨v,hv,qv⟩:=ra.get hx
  have sq:=hp.ext.sqT sa
  refine⟨⟨vs,v,sq,hv⟩,λ y H' hy=>?_⟩
  obtain⟨rfl,hy⟩:=hy
  have:=hy vs sq
  rw[hv] at this
  cases this
  exact⟨R,.refl,RV.mono hp _ _ qv⟩
 ·exact⟨vs,hp.ext.sqT sa,by rw[ra.length];exact hx⟩
theorem Jrs {l:Expr}{ml:E1}(hl:PEi ce X l ml):PIi ce X tg l (iVal ml):=by
 intro pj s σ H ι σi h Q E N K
 refine hl pj s σ H ι σi h _ E N ?_
 unfold iVal at K
 cases e0:ml σi h with
 | exc n h'=>rw[e0] at K;exact K
 | stuck=>rw[e0] at K;exact K
 | ok v h' =>
  rw[e0] at K
  intro u s1 H1 ι1 N1 n1 r1
  obtain⟨w,rw',q⟩:=r1
  have fresh:∀b∈[s1.heap.objs.size],FpOk X pj H1 b:=λ b hb=>by
   have e:b=s1.heap.objs.size:=by simpa using hb
   subst e
   exact N1.inv.fpOk (Zo _) (N1.inv.hok.fresh (Zo _))
  cases v with
  | ref i =>
   obtain⟨a,e1,ha⟩:=q
   subst e1
   cases rw'
   cases hi:h'[i]? with
   | none=>simp only[Res.bind,itOf,hi] at K
   | some o =>
    cases o with
    | lst xs =>
     simp only[Res.bind,itOf,hi] at K
     obtain⟨vs,e1,r1⟩:=N1.at hi ha
     obtain⟨its,rv,p,hz⟩:=N1.inv.list (SqL.of e1)
     refine ZaU p.isList (K _ _ H1 ι1 ⟨N1.inv.kept (t':=s1.toks) λ b o e=>Zh _ e,N1.rel,N1.st⟩ n1 ?_)
     exact⟨s1.heap.objs.size,[s1.heap.objs.size],_,Itl X.K a,rfl,Jmu a _,⟨_,Z2 _ rfl,rfl,rfl⟩,fresh,J0q ha⟩
    | _=>simp only[Res.bind,itOf,hi] at K
  | rol xs =>
   obtain⟨a,vs,e1,sa,ra⟩:=q
   subst e1
   cases rw'
   simp only[Res.bind,itOf] at K
   obtain⟨its,rv,p,hz⟩:=N1.inv.list sa.sq
   refine ZaU p.isList (K _ _ H1 ι1 ⟨N1.inv.kept (t':=s1.toks) λ b o e=>Zh _ e,N1.rel,N1.st⟩ n1 ?_)
   exact⟨s1.heap.objs.size,[s1.heap.objs.size],_,Itl X.K a,rfl,Jmu a _,⟨_,Z2 _ rfl,rfl,rfl⟩,fresh,J0r sa ra⟩
  | tup xs =>
   obtain⟨a,vs,e1,sa,ra⟩:=q
   subst e1
   cases rw'
   simp only[Res.bind,itOf] at K
   obtain⟨its,rv,p,hz⟩:=N1.inv.tuple sa
   refine wpAny_pyIter_tuple (show s1.heap.IsTuple a its.toArray from p) (K _ _ H1 ι1 ⟨N1.inv.kept (t':=s1.toks) λ b o e=>Zh _ e,N1.rel,N1.st⟩ n1 ?_)
   exact⟨s1.heap.objs.size,[s1.heap.objs.size],_,Itt X.K a,rfl,Jqp a _,⟨_,Z2 _ rfl,rfl,rfl⟩,fresh,J0s sa ra⟩
  | _=>simp only[Res.bind,itOf] at K
noncomputable def rngI (lo hi:Int):List IV:=(ZN (hi-lo).toNat).map λ k=>.int (lo+(k:Nat))
def Q6:List IV->IH->Res ItI
 | [.int j],h=>if -(2^62)<=j/\j<2^62 then .ok ⟨rngI 0 j,λ _=>True⟩ h else .stuck
 | _,_=>.stuck
def Jwf:List IV->IH->Res ItI
 | [.int i,.int j],h=>if -(2^62)<=i/\i<2^62/\ -(2^62)<=j/\j<2^62 then .ok ⟨rngI i j,λ _=>True⟩ h else .stuck
 | _,_=>.stuck
def iRg (f:List IV->IH->Res ItI)(a:A1):I1:=λ σ h=>(a σ h).bind f
theorem J1r {lo hi:Int}{ι:List Zm}{H₀:Hp}:ItOk ce X.K ι H₀ (Itr lo (hi-lo).toNat) ⟨rngI lo hi,λ _=>True⟩:=by
 refine⟨λ k x h H ι' hp R hck hx=>?_,λ k h H ι' hp R hck hx=>?_⟩
 ·have hk:k<(hi-lo).toNat:=by
   have:=(Zr.mp hx).1
   simpa [rngI] using this
  refine⟨hk,λ y H' hy=>?_⟩
  obtain⟨rfl,rfl⟩:=hy
  simp only[rngI,Zv,ZbB hk] at hx
  cases hx
  exact⟨R,.refl,rfl⟩
 ·have:(rngI lo hi).length=(hi-lo).toNat:=by simp[rngI]
  show(hi-lo).toNat<=k
  rw[<- this]
  exact hx
theorem Jsp {pj:PnT}{σ:L2.St}{H:Hp}{ι:List Zm}{σi:ISt}{h:IH}{s:Zl}{Q:QvT}{E:QvT}{lo hi:Int}{t u v:Tok}{tk:Nat}(N:Now ce X pj ι σi h σ H s)
  (h1: -(2^62)<=lo)(h2:lo<2^62)(h3: -(2^62)<=hi)(h4:hi<2^62)
  (K:∀itv s' H' ι',Now ce X pj ι' σi h σ H' s'->Nxt ι H ι' H'->RIt ce X tg pj ι' ⟨rngI lo hi,λ _=>True⟩ itv s' H'->Q itv s') :
  Zx (Z8 X.prog X.w) X.A (Zen (.ref s.heap.objs.size)) Q E { s with heap:=s.heap.push { cls:=.type "range",data:=.fields #[.int lo t,.int hi u,.int 1 v] },toks:=tk }:=by
 have:=Jux (X:=X) (tg:=tg) (E:=E) (R:=λ J H'=>J=Itr lo (hi-lo).toNat/\H'=H) (t:=t) (u:=u) (v:=v) (tk:=tk) N.inv h1 h2 h3 h4 ⟨rfl,rfl⟩
 refine Zam this (λ itv s' hq=>?_) λ _ _ z=>z
 obtain⟨it,fp,tn,J,H',e,I',T,st,f,rfl,rfl⟩:=hq
 exact K itv s' _ ι ⟨I',N.rel,N.st⟩ .refl ⟨it,fp,tn,_,e,T,st,f,J1r⟩
theorem Jt8 {a:Expr}{ma:A1}{p pos:Pos}(hg:Gl X "range")(hm:X.mg "range"=Zc)(ha:PAi ce X [a] ma)(hs:ZG [a] X.env=[(Zj,Zbe a X.env)]:=by rfl):PIi ce X tg (.Call (.Name "range" p) [a] [] pos) (iRg Q6 ma):=by
 intro pj s σ H ι σi h Q E N K
 refine Call_ (QG N.inv hg hm boot_range (ZaR ?_ hs rfl))
 refine ha pos pj s σ H ι σi h _ E N ?_
 unfold iRg at K
 cases e0:ma σi h with
 | exc n h'=>rw[e0] at K;exact K
 | stuck=>rw[e0] at K;exact K
 | ok vs h' =>
  rw[e0] at K
  intro us s1 H1 ι1 N1 n1 r1
  obtain⟨xs,rv,qs⟩:=r1
  match vs,K with
  | [.int j],K =>
   obtain⟨w,r,e1,q,q2⟩:=qs
   have e2:r=[]:=q2
   subst e1 e2
   have e3:w=.int j:=q
   subst e3
   cases rv with
   | cons r rr =>
    cases rr
    obtain⟨t,rfl⟩:=r
    simp only[Res.bind,Q6] at K
    by_cases hb: -(2^62)<=j/\j<2^62
    ·rw[if_pos hb] at K
     exact call_range_1 (Jsp N1 (by omega) (by omega) hb.1 hb.2 λ itv s' H' ι' N' n' R=>K itv s' H' ι' N' (n1.trans n') R)
    ·rw[if_neg hb] at K
     exact K.elim
  | [],K=>exact Zf K
  | .non::_,K=>exact Zf K
  | .bl _::_,K=>exact Zf K
  | .str _::_,K=>exact Zf K
  | .tup _::_,K=>exact Zf K
  | .rol _::_,K=>exact Zf K
  | .ref _::_,K=>exact Zf K
  | .int _::_::_,K=>exact Zf K
end
end L3
namespace L3
open PySem PySem.Spec PySem.Calls PyProof.Rows L2
section
variable {prog:ZA}{w:ZW}{A:ZO}{E:QvT}{s:Zl}{K:W.Frag}{x D:Zm}{ox:Obj}
open PySem.W PySem.Builtin PySem.Builtin.ObjectAttr PySem.Builtin.Getset_descriptor in
end
structure ExI (K:W.Frag)(C:Zm):Prop where
 ga:W.findIn K (.ref C) "__getattribute__"=Za (Za (.builtin "BaseException.__getattribute__"))
 mb:W.mroIn K C (.type "BaseException")=Za Zg
 gn:W.findIn K (.ref C) "__getattr__"=Za Zc
 ca:W.findIn K (.ref C) "__class__"=Za (Za (.builtin "object.__class__"))
 mo:W.mroIn K C (.type "object")=Za Zg
 hd:W.hasDictIn K C=Zg
end L3
namespace L3
open PySem PySem.Spec PyProof.Rows L2
def XU (n:Nat)(vs:List IV):ISt:=vs.map Za++ZS (n-vs.length) Zc
noncomputable def SRes.fin (r:SRes):Res IV:=match r with
 | .next _ h'=>.ok .non h'
 | .ret v h'=>.ok v h'
 | .exc n _ h'=>(match h'[n]? with
  | some (.exc _ _)=>.exc n h'
  | _=>.stuck)
 | _=>.stuck
noncomputable def fnI (n:Nat)(m:S1):List IV->IH->Res IV:=λ vs h=>(m (XU n vs) h).fin
def spI (ce:CeT)(K:W.Frag)(ps:List Str)(f:List IV->IH->Res IV):Sp:=λ vs H Q E =>
 vs.length=ps.length/\∃ι h ivs,Rel ce K ι h H/\RVs K ι H ivs vs /\
  match f ivs h with
  | .ok v h'=>∀x H' ι',Rel ce K ι' h' H'->Nxt ι H ι' H'->RV K ι' H' v x->Q x H'
  | .exc n h'=>∀a H' ι',Rel ce K ι' h' H'->Nxt ι H ι' H'->ι'[n]?=Za a->E (.ref a) Zc H'
  | .stuck=>False
theorem RVs.start {K:W.Frag}{ι:List Zm}{H:Hp}{N:List Str}{ivs:List IV}{vs:List V}(r:RVs K ι H ivs vs):RSt K ι H (XU N.length ivs) (L2.start N vs):=by
 have hl:=r.length
 refine⟨by simp[XU,L2.start,hl],λ j v e=>?_⟩
 unfold XU at e
 unfold L2.start
 by_cases hj:j<ivs.length
 ·rw[ZE (by simpa using hj),Zv] at e
  rw[ZE (by simp;omega),Zv]
  cases e1:ivs[j]? with
  | none=>rw[e1] at e;cases e
  | some w =>
   rw[e1] at e
   cases e
   obtain⟨u,hu,q⟩:=r.get e1
   exact⟨u,by rw[hu];rfl,q⟩
 ·rw[Z9 (by simpa using hj),ZbD] at e
  split at e<;>cases e
theorem Jos {α:Type}:∀{l:List α}{i:Nat}{x:α},l[i]?=Za x->l.set i x=l
 | [],_,_,e=>by simp at e
 | a::l,0,x,e=>by cases e;rfl
 | a::l,i+1,x,e=>by
  show a::l.set i x=a::l
  rw[Jos (l:=l) e]
theorem J34 {ce:CeT}{K:W.Frag}{ι:List Zm}{h:IH}{H:Hp}{i:Nat}{o:IX}{a:Zm}(R:Rel ce K ι h H)(e:h[i]?=Za o)(q:ι[i]?=Za a):RO ce K ι H a o:=by
 obtain⟨b,e1,r⟩:=R.at_ i o e
 rw[q] at e1
 cases e1
 exact r
structure FunD (K:W.Frag)(x qual:Str)(st:Zdi)(f:Zm)(fd:ZaD)(dV:Ze):Prop where
 ex:∃(oc:Ze)(od:Option Zm)(kV doc pm:Ze)(an:Option Zm)(cdv ct:Ze)(osl:Array (Option Ze)),
  fd=W.fnOf x qual (QU st) (Qw st) (JV st) dV kV doc pm an cdv ct/\K.lookup f=Za ⟨oc,od,.func fd,osl⟩/\W.codeIn K cdv qual=Zg
 kp:W.keepIn K (.ref f)=Zg
section
variable {P:ZA}{w:ZW}{K:W.Frag}{mg:Str->Option Ze}{base:Zas}{ce:CeT}
theorem FunD.fn {x qual:Str}{st:Zdi}{f:Zm}{fd:ZaD}{dV:Ze}{N ps:List Str}{k n:Nat}{m:S1}(F:FunD K x qual st f fd dV)(S:FnScope N ps (JV st))
  (hbody:∀(cdv:Ze)(A:ZO)(outer:List Env)(s:Zl)(H:Hp)(E:XK),W.codeIn K cdv qual=Zg->Room k (A.deeper (ZdV qual (JV st) s.heap.objs.size f cdv))->PS2 ce (cxOf (CXI P w) P w K mg base N qual (JV st) f cdv A outer s H E).nox (Qw st) m)(hn:N.length=n:=by rfl) :
  FnOk P w K mg base (CXI P w) (k+1) f fd ps (spI ce K ps (fnI n m)):=by
 subst hn
 obtain⟨oc,od,kV,doc,pm,an,cdv,ct,osl,rfl,lk,hcd⟩:=F.ex
 refine J21 lk hcd S (λ vs H Q E h=>h.1) λ A outer s H vs Q E hr hsp=>?_
 obtain⟨hl,ι,h,ivs,R,rv,hk⟩:=hsp
 refine⟨λ D σ H=>∃ι σi h,Rel ce K ι h H/\RSt K ι H σi σ/\match m σi h with
  | .next σi' h'=>∀σ' H' ι',Rel ce K ι' h' H'->RSt K ι' H' σi' σ'->Nxt ι H ι' H'->D.nx σ' H'
  | .ret v h'=>∀x H' ι',Rel ce K ι' h' H'->Nxt ι H ι' H'->RV K ι' H' v x->D.rt x H'
  | .exc n _ h'=>(∃c fs,h'[n]?=Za (.exc c fs))/\∀a H' ι',Rel ce K ι' h' H'->Nxt ι H ι' H'->ι'[n]?=Za a->E (.ref a) Zc H'
  | _=>False,λ pj s' σ' H' D I ht=>?_,ι,XU N.length ivs,h,R,rv.start,?_⟩
 ·obtain⟨ι,σi,h,R,rs,hm⟩:=ht
  refine Zam (hbody cdv A outer s H E hcd hr pj s' σ' H' ι σi h (SP _ pj D) _ ⟨I.wish _,R,rs⟩ ?_) (λ _ _ z=>z) (λ _ _ z=>z)
  cases e:m σi h with
  | next σ2 h2 =>
   rw[e] at hm
   exact λ s3 σ3 H3 ι3 N3 n3=>⟨σ3,H3,N3.inv.unwish,hm σ3 H3 ι3 N3.rel N3.st n3⟩
  | ret v h2 =>
   rw[e] at hm
   exact λ u s3 σ3i σ3 H3 ι3 N3 n3 ⟨z,rz,q⟩=>⟨z,σ3,H3,N3.inv.unwish,rz,hm z H3 ι3 N3.rel n3 q⟩
  | exc j σ2 h2 =>
   rw[e] at hm
   obtain⟨⟨c,fs,hj⟩,hm⟩:=hm
   intro pl a s3 σ3 H3 ι3 N3 n3 hi s4 fl
   have I3:=N3.inv.unwish
   obtain⟨C,tv,d,fe,hC,ha,ht⟩:=J34 N3.rel hj hi
   refine Jsa I3 fl rfl rfl ha ht λ T oT h' p=>?_
   have nl:s.heap.get? s.heap.objs.size=Zc:=Heap.get?_none_of_le (Zo _)
   obtain⟨R4,n4⟩:=N3.rel.grow (o:=.frz oT (.own 0)) p.new
   have ha4:upd H3 T (.frz oT (.own 0)) a=Za (ExF a C tv d):=by rw[Jr (ZQ p.ne)];exact ha
   obtain⟨R5,n5⟩:=R4.write hi ha4 (by rw[ha4];trivial) (o:=ExF a C (.ref T) d) (io:=.exc c fs) ⟨C,.ref T,d,fe.mono p.un.frzs,hC,J7,.inr ⟨T,oT,_,rfl,by rw[Jr p.ne,J7],p.fld.choose_spec⟩⟩
   rw[Jos hj] at R5
   exact⟨_,I3.os,I3.bare,Un.tail I3.base p.un nl,p.hok,hm a _ ι3 R5 ((n3.trans n4).trans n5) hi⟩
  | _=>rw[e] at hm;exact hm.elim
 ·unfold fnI SRes.fin at hk
  cases e:m (XU N.length ivs) h with
  | next σ2 h2 =>
   rw[e] at hk
   exact λ σ3 H3 ι3 R3 _ n3=>hk .non H3 ι3 R3 n3 rfl
  | ret v h2 =>
   rw[e] at hk
   exact hk
  | exc j σ2 h2 =>
   rw[e] at hk
   dsimp only at hk
   cases q:h2[j]? with
   | none=>rw[q] at hk;exact hk.elim
   | some o =>
    cases o with
    | exc c fs=>rw[q] at hk;exact⟨⟨c,fs,q⟩,hk⟩
    | _=>rw[q] at hk;exact hk.elim
  | _=>rw[e] at hk;exact hk.elim
end
noncomputable def Res.nx {α:Type}:Res α->Res α
 | .ok a h=>.ok a h
 | _=>.stuck
def Jm (f:List IV->IH->Res IV)(dvs:List IV)(a:A1):E1:=λ σ h=>(a σ h).bind λ vs h1=>f (vs++dvs) h1
def QB (c:Str)(f:List IV->IH->Res IV)(dvs:List IV)(a:A1):E1:=λ σ h=>(a σ h).bind λ vs h1=>(f (.ref h1.length::(vs++dvs)) (h1++[.ins c []])).bind λ r h2=>match r with
 | .non=>.ok (.ref h1.length) h2
 | _=>.stuck
def Jtx (m:Str)(disp:Str->Option ((List IV->IH->Res IV)×List IV))(o:E1)(a:A1):E1:=λ σ h=>(o σ h).bind λ v h1=>match v with
 | .ref i=>(match h1[i]? with
  | some (.ins c fs)=>(match disp c,fs.lookup m with
   | some (f,dvs),Zc=>(a σ h1).bind λ vs h2=>f (.ref i::(vs++dvs)) h2
   | _,_=>.stuck)
  | _=>.stuck)
 | _=>.stuck
section
variable {ce:CeT}{X:Cx}{k:Nat}{fa C:Zm}{fd:ZaD}{ps:List Str}{f:List IV->IH->Res IV}{dvs:List IV}{ds:List Ze}{x m:Str}{p pos apos:Pos}{e o:Expr}{es:List Expr}{mo:E1}{ma:A1}
theorem Y2 {pj:PnT}{σ:L2.St}{H:Hp}{ι:List Zm}{σi:ISt}{h:IH}{s:Zl}{Q:QvT}{E:QvT}{us:List Ze}{xs:List IV}(F:FnOk X.prog X.w X.K X.mg X.base (CXI X.prog X.w) k fa fd ps (spI ce X.K ps f))(hr:Room k X.A)(hb:Qo X.K fd ps ds) 
  (hd:∃vs,Vals vs ds/\∀ι H,RVs X.K ι H dvs vs)(hlen:us.length+ds.length=ps.length)(N:Now ce X pj ι σi h σ H s)(r:RUs X.K ι H xs us)(K:Kont ce X RU pj ι σi σ H (f (xs++dvs) h) Q E):Zx (Z8 X.prog X.w) X.A (call (.ref fa) us) Q E s:=by
 obtain⟨vs,rv,q⟩:=r
 obtain⟨dv,rd,qd⟩:=hd
 have hl1:=rv.length
 have hl2:=rd.length
 refine Zam (Jyx (Q:=λ z H'=>∀u s',Inv X pj σ H' s'->RelV z u->Q u s') (E:=λ v _ H'=>∀s',Inv X pj σ H' s'->E v s') F hr hb rd N.inv rv ⟨by rw[Zt];omega,ι,h,xs++dvs,N.rel,q.append (qd ι H),?_⟩ λ _ s' _ I' z=>z s' I')
  (λ u s' ⟨z,H',I',r',k'⟩=>k' u s' I' r') λ _ _ z=>z
 cases e:f (xs++dvs) h with
 | ok v h' =>
  rw[e] at K
  exact λ z H' ι' R' n' qz u s' I' ru=>K u s' H' ι' ⟨I',R',N.st.mono n'⟩ n' ⟨z,ru,qz⟩
 | exc n h' =>
  rw[e] at K
  exact λ a H' ι' R' n' hi s' I'=>K [] a s' H' ι' ⟨by simpa using I',R',N.st.mono n'⟩ n' hi
 | stuck=>rw[e] at K;exact K
theorem J0f (F:FnOk X.prog X.w X.K X.mg X.base (CXI X.prog X.w) k fa fd ps (spI ce X.K ps f))(hr:Room k X.A)(hg:Gl X x)(hm:X.mg x=Za (.ref fa))(hk:W.keepIn X.K (.ref fa)=Zg)(hb:Qo X.K fd ps ds)(hd:∃vs,Vals vs ds/\∀ι H,RVs X.K ι H dvs vs) 
  (ha:PAi ce X (e::es) ma)(hlen:∀σ h xs h',ma σ h=.ok xs h'->xs.length+ds.length=ps.length)(hdb:(x==("__debug__":Str))=Zj:=by decide)(he:ZG (e::es) X.env=(Zj,Zbe e X.env)::ZG es X.env:=by rfl)(hpl:(Zbj pos (ZG es X.env)).any (·.1)=Zj:=by rfl) :
  PEi ce X (.Call (.Name x p) (e::es) [] pos) (Jm f dvs ma):=by
 intro pj s σ H ι σi h Q E N K
 refine Zak (Xp N.inv hg hm ?_ hdb)
 refine W.callWith_K (h₀:=X.base) N.inv.ok.mod.kin hk ?_ he hpl
 have K':=K
 unfold Jm at K'
 refine ha pos pj s σ H ι σi h _ E N ?_
 cases e0:ma σi h with
 | exc n h'=>rw[e0] at K';exact K'
 | stuck=>rw[e0] at K';exact K'
 | ok xs h' =>
  rw[e0] at K'
  intro us s1 H1 ι1 N1 n1 r1
  have hl:xs.length=us.length:=by
   obtain⟨vs,rv,q⟩:=r1
   rw[<- rv.length,q.length]
  exact⟨N1.inv.kIn,Y2 (us:=us) F hr hb hd (by have:=hlen σi h xs h' e0;omega) N1 r1 (Kont.mono (r:=(f (xs++dvs) h')) K' n1)⟩
theorem Jx5 (F:FnOk X.prog X.w X.K X.mg X.base (CXI X.prog X.w) k fa fd ps (spI ce X.K ps f))(hr:Room k X.A)(hg:Gl X x)(hm:X.mg x=Za (.ref fa))(hk:W.keepIn X.K (.ref fa)=Zg)(hb:Qo X.K fd ps ds)(hd:∃vs,Vals vs ds/\∀ι H,RVs X.K ι H dvs vs) 
  (hlen:ds.length=ps.length)(hdb:(x==("__debug__":Str))=Zj:=by decide):PEi ce X (.Call (.Name x p) [] [] pos) (Jm f dvs Jd):=by
 intro pj s σ H ι σi h Q E N K
 refine Zak (Xp N.inv hg hm ?_ hdb)
 exact W.callWith_K0 N.inv.kIn hk (Y2 (xs:=[]) F hr hb hd (by simpa using hlen) N .nil K)
theorem Jl7 {c:Str}{pj:PnT}{σ:L2.St}{H:Hp}{ι:List Zm}{σi:ISt}{h:IH}{s:Zl}{Q:QvT}{E:QvT}{us:List Ze}{xs:List IV}(M:Mk X.K C fa)(F:FnOk X.prog X.w X.K X.mg X.base (CXI X.prog X.w) k fa fd ps (spI ce X.K ps f))(hC:ce c=Za C)(hr:Room (k+1) X.A)(hb:Qo X.K fd ps ds)
  (hd:∃vs,Vals vs ds/\∀ι H,RVs X.K ι H dvs vs)(hlen:us.length+ds.length+1=ps.length)(N:Now ce X pj ι σi h σ H s)(r:RUs X.K ι H xs us)
  (K:Kont ce X RU pj ι σi σ H ((f (.ref h.length::(xs++dvs)) (h++[.ins c []])).bind λ r h2=>match r with|.non=>.ok (.ref h.length) h2|_=>.stuck) Q E):Zx (Z8 X.prog X.w) X.A (call (.ref C) us) Q E s:=by
 obtain⟨vs,rv,q⟩:=r
 obtain⟨dv,rd,qd⟩:=hd
 have hl1:=rv.length
 have hl2:=rd.length
 refine Zam (Jsv (Q:=λ z H'=>∀u s',Inv X pj σ H' s'->RelV z u->Q u s') (E:=λ v _ H'=>∀s',Inv X pj σ H' s'->E v s') M F hr hb rd N.inv rv (λ x dx hx hdx hne=>⟨by rw[ZB,Zt];omega,?_⟩) λ _ s' _ I' z=>z s' I')
  (λ u s' ⟨z,H',I',r',k'⟩=>k' u s' I' r') λ _ _ z=>z
 -- the new instance in the reading's heap
 obtain⟨R1,n1⟩:=N.rel.grow (o:=.own x) hdx
 have hx1:upd H dx (.own x) x=Zc:=by rw[Jr (ZQ hne)];exact hx
 obtain⟨R2,n2⟩:=R1.alloc (o:=.ins C dx []) (io:=.ins c []) hx1 ⟨C,dx,[],hC,J7,rfl⟩
 have n12:=n1.trans n2
 have hat:(ι++[x])[h.length]?=Za x:=by
  rw[<- N.rel.len,Z9 (Zo _)]
  simp
 refine⟨ι++[x],h++[.ins c []],.ref h.length::(xs++dvs),R2,⟨_,_,rfl,⟨x,rfl,hat⟩,(RVs.mono n12 _ _ q).append (qd _ _)⟩,?_⟩
 cases e:f (.ref h.length::(xs++dvs)) (h++[.ins c []]) with
 | ok v h' =>
  rw[e] at K
  intro z H' ι' R' n' qz
  cases v with
  | non =>
   have ez:z=.non:=qz
   subst ez
   exact⟨rfl,λ u s' I' ru=>K u s' H' ι' ⟨I',R',N.st.mono (n12.trans n')⟩ (n12.trans n') ⟨.ref x,ru,x,rfl,n'.at hat⟩⟩
  | _=>exact Zf K
 | exc n h' =>
  rw[e] at K
  exact λ a H' ι' R' n' hi s' I'=>K [] a s' H' ι' ⟨by simpa using I',R',N.st.mono (n12.trans n')⟩ (n12.trans n') hi
 | stuck=>rw[e] at K;exact Zf K
theorem J0j {c:Str}(M:Mk X.K C fa)(F:FnOk X.prog X.w X.K X.mg X.base (CXI X.prog X.w) k fa fd ps (spI ce X.K ps f))(hC:ce c=Za C)(hr:Room (k+1) X.A)(hg:Gl X x)(hm:X.mg x=Za (.ref C))(hb:Qo X.K fd ps ds)(hd:∃vs,Vals vs ds/\∀ι H,RVs X.K ι H dvs vs)
  (ha:PAi ce X (e::es) ma)(hlen:∀σ h xs h',ma σ h=.ok xs h'->xs.length+ds.length+1=ps.length)(hdb:(x==("__debug__":Str))=Zj:=by decide)(he:ZG (e::es) X.env=(Zj,Zbe e X.env)::ZG es X.env:=by rfl)(hpl:(Zbj pos (ZG es X.env)).any (·.1)=Zj:=by rfl) :
  PEi ce X (.Call (.Name x p) (e::es) [] pos) (QB c f dvs ma):=by
 intro pj s σ H ι σi h Q E N K
 refine Zak (Xp N.inv hg hm ?_ hdb)
 refine W.callWith_K (h₀:=X.base) N.inv.ok.mod.kin M.kp ?_ he hpl
 have K':=K
 unfold QB at K'
 refine ha pos pj s σ H ι σi h _ E N ?_
 cases e0:ma σi h with
 | exc n h'=>rw[e0] at K';exact K'
 | stuck=>rw[e0] at K';exact K'
 | ok xs h' =>
  rw[e0] at K'
  intro us s1 H1 ι1 N1 n1 r1
  have hl:xs.length=us.length:=by
   obtain⟨vs,rv,q⟩:=r1
   rw[<- rv.length,q.length]
  exact⟨N1.inv.kIn,Jl7 (us:=us) M F hC hr hb hd (by have:=hlen σi h xs h' e0;omega) N1 r1 (Kont.mono (r:=(f (IV.ref h'.length::(xs++dvs)) (h'++[.ins c []])).bind λ r h2=>match r with|IV.non=>Res.ok (IV.ref h'.length) h2|_=>Res.stuck) K' n1)⟩
theorem Jx8 (M:Mk X.K C fa)(F:FnOk X.prog X.w X.K X.mg X.base (CXI X.prog X.w) k fa fd ps (spI ce X.K ps f))(hC:ce c=Za C)(hr:Room (k+1) X.A)(hg:Gl X x)(hm:X.mg x=Za (.ref C))(hb:Qo X.K fd ps ds)(hd:∃vs,Vals vs ds/\∀ι H,RVs X.K ι H dvs vs) 
  (hlen:ds.length+1=ps.length)(hdb:(x==("__debug__":Str))=Zj:=by decide):PEi ce X (.Call (.Name x p) [] [] pos) (QB c f dvs Jd):=by
 intro pj s σ H ι σi h Q E N K
 refine Zak (Xp N.inv hg hm ?_ hdb)
 exact W.callWith_K0 N.inv.kIn M.kp (Jl7 (xs:=[]) M F hC hr hb hd (by simpa using hlen) N .nil K)
def Jqq (ce:CeT)(X:Cx)(m:Str)(n:Nat)(disp:Str->Option ((List IV->IH->Res IV)×List IV)):Prop :=
 ∀c f dvs,disp c=Za (f,dvs)->∃(C fa:Zm)(fd:ZaD)(k:Nat)(ps:List Str)(ds:List Ze),ce c=Za C/\Cls X.K C/\Meth X.K C m fa/\FnOk X.prog X.w X.K X.mg X.base (CXI X.prog X.w) k fa fd ps (spI ce X.K ps f)/\Room k X.A/\Qo X.K fd ps ds/\(∃vs,Vals vs ds/\∀ι H,RVs X.K ι H dvs vs)/\n+ds.length+1=ps.length
theorem J0l {n:Nat}{disp:Str->Option ((List IV->IH->Res IV)×List IV)}{pl:Sem Bool}(ho:PEi ce X o mo)(hd:Jqq ce X m n disp)(ha:PAi ce X (e::es) ma)(hlen:∀σ h xs h',ma σ h=.ok xs h'->xs.length=n)
  (hst:ZG (e::es) X.env=(Zj,Zbe e X.env)::ZG es X.env:=by rfl)(hpl:(Zbj pos (ZG es X.env)).any (·.1)=Zj:=by rfl)
  (ht:Zbe (.Call (.Attribute o m apos) (e::es) [] pos) X.env=(do
   let ov<-Zbe o X.env
   Zez apos.atName
   let (f,first)<-ZbR [ov] (Zd2 ov m pl)
   callWith pos f first (Zbj pos (ZG (e::es) X.env)) (Zd7 pos (Zcx [] X.env))):=by rfl) :
  PEi ce X (.Call (.Attribute o m apos) (e::es) [] pos) (Jtx m disp mo ma):=by
 intro pj s σ H ι σi h Q E N K
 refine W.methodCall_KW (pl:=pl) (ho.run N K λ v h1 u s1 H1 ι1 N1 n1 r1 K1=>?_) ht
 cases v with
 | ref i =>
  obtain⟨w,rw',a,e1,hi⟩:=r1
  subst e1
  cases rw'
  dsimp only at K1
  cases hh:h1[i]? with
  | none=>rw[hh] at K1;exact Zf K1
  | some ob =>
   cases ob with
   | ins c fs =>
    rw[hh] at K1
    dsimp only at K1
    cases hd1:disp c with
    | none=>rw[hd1] at K1;exact Zf K1
    | some fd1 =>
     obtain⟨f,dvs⟩:=fd1
     cases hl:fs.lookup m with
     | some z=>rw[hd1,hl] at K1;exact Zf K1
     | none =>
      rw[hd1,hl] at K1
      dsimp only at K1
      obtain⟨C,fa,fd,k,ps,ds,hC,cl,hm,F,hr,hb,hdv,hn⟩:=hd c f dvs hd1
      obtain⟨C',dx,vs,hC',hH,rp⟩:=N1.at hh hi
      rw[hC] at hC'
      cases hC'
      refine Ji6 N1.inv hH cl hm ((RPs.lookup rp).2 hl) ?_
      refine W.callWith_K (first:=[.ref a]) (h₀:=X.base) N1.inv.ok.mod.kin hm.kp ?_ hst hpl
      refine ha pos pj s1 σ H1 ι1 σi h1 _ E N1 ?_
      cases e0:ma σi h1 with
      | exc n h'=>rw[e0] at K1;exact K1
      | stuck=>rw[e0] at K1;exact K1
      | ok xs h' =>
       rw[e0] at K1
       intro us s2 H2 ι2 N2 n2 r2
       have hl:xs.length=us.length:=by
        obtain⟨vs,rv,q⟩:=r2
        rw[<- rv.length,q.length]
       have hl2:=hlen σi h1 xs h' e0
       refine⟨N2.inv.kIn,Y2 (us:=.ref a::us) (xs:=.ref i::xs) F hr hb hdv (by rw[ZB];omega) N2 (.cons ⟨.ref a,rfl,a,rfl,n2.at hi⟩ r2) ?_⟩
       exact Kont.mono (r:=(f (.ref i::(xs++dvs)) h')) K1 n2
   | _=>rw[hh] at K1;exact Zf K1
 | _=>exact Zf K1
theorem Jx9 {disp:Str->Option ((List IV->IH->Res IV)×List IV)}{pl:Sem Bool}(ho:PEi ce X o mo)(hd:Jqq ce X m 0 disp)
  (ht:Zbe (.Call (.Attribute o m apos) [] [] pos) X.env=(do
   let ov<-Zbe o X.env
   Zez apos.atName
   let (f,first)<-ZbR [ov] (Zd2 ov m pl)
   callWith pos f first (Zbj pos (ZG [] X.env)) (Zd7 pos (Zcx [] X.env))):=by rfl) :
  PEi ce X (.Call (.Attribute o m apos) [] [] pos) (Jtx m disp mo Jd):=by
 intro pj s σ H ι σi h Q E N K
 refine W.methodCall_KW (pl:=pl) (ho.run N K λ v h1 u s1 H1 ι1 N1 n1 r1 K1=>?_) ht
 cases v with
 | ref i =>
  obtain⟨w,rw',a,e1,hi⟩:=r1
  subst e1
  cases rw'
  dsimp only at K1
  cases hh:h1[i]? with
  | none=>rw[hh] at K1;exact Zf K1
  | some ob =>
   cases ob with
   | ins c fs =>
    rw[hh] at K1
    dsimp only at K1
    cases hd1:disp c with
    | none=>rw[hd1] at K1;exact Zf K1
    | some fd1 =>
     obtain⟨f,dvs⟩:=fd1
     cases hl:fs.lookup m with
     | some z=>rw[hd1,hl] at K1;exact Zf K1
     | none =>
      rw[hd1,hl] at K1
      dsimp only at K1
      obtain⟨C,fa,fd,k,ps,ds,hC,cl,hm,F,hr,hb,hdv,hn⟩:=hd c f dvs hd1
      obtain⟨C',dx,vs,hC',hH,rp⟩:=N1.at hh hi
      rw[hC] at hC'
      cases hC'
      refine Ji6 N1.inv hH cl hm ((RPs.lookup rp).2 hl) ?_
      exact W.callWith_K0 (first:=[.ref a]) N1.inv.kIn hm.kp (Y2 (us:=[.ref a]) (xs:=[.ref i]) F hr hb hdv (by rw[ZB,ZaM];omega) N1 (.cons ⟨.ref a,rfl,a,rfl,hi⟩ .nil) K1)
   | _=>rw[hh] at K1;exact Zf K1
 | _=>exact Zf K1
def Jq (f:Str)(o:E1):E1:=λ σ h=>(o σ h).bind λ v h1=>match v with
 | .ref i=>(match h1[i]? with
  | some (.ins _ fs)=>(match fs.lookup f with
   | some x=>.ok x h1
   | none=>.stuck)
  | _=>.stuck)
 | _=>.stuck
def Yh (ce:CeT)(K:W.Frag)(f:Str):Prop:=∀c C,ce c=Za C->Cls K C/\Qt K C f
theorem J29 (ho:PEi ce X o mo)(hf:Yh ce X.K fl)(hb:ZcP o fl X.env (Zbe o X.env)=Zbe o X.env:=by rfl):PEi ce X (.Attribute o fl pos) (Jq fl mo):=by
 intro pj s σ H ι σi h Q E N K
 refine Jxg hb (ho.run N K λ v h1 u s1 H1 ι1 N1 n1 r1 K1=>?_)
 cases v with
 | ref i =>
  obtain⟨w,rw',a,e1,hi⟩:=r1
  subst e1
  cases rw'
  dsimp only at K1
  cases hh:h1[i]? with
  | none=>rw[hh] at K1;exact Zf K1
  | some ob =>
   cases ob with
   | ins c fs =>
    rw[hh] at K1
    dsimp only at K1
    cases hl:fs.lookup fl with
    | none=>rw[hl] at K1;exact Zf K1
    | some z =>
     rw[hl] at K1
     obtain⟨C,dx,vs,hC,hH,rp⟩:=N1.at hh hi
     obtain⟨cl,na⟩:=hf c C hC
     obtain⟨y,hy,q⟩:=(RPs.lookup rp).1 z hl
     exact Ji5 N1.inv hH cl na hy λ u' s2 I2 ru=>K1 u' s2 H1 ι1 ⟨I2,N1.rel,N1.st⟩ .refl ⟨y,ru,q⟩
   | _=>rw[hh] at K1;exact Zf K1
 | _=>exact Zf K1
noncomputable def putI (f:Str)(v:IV):List (Str×IV)->List (Str×IV)
 | []=>[(f,v)]
 | (g,x)::r=>if g=f then(g,v)::r else(g,x)::putI f v r
theorem RPs.put {K:W.Frag}{ι:List Zm}{H:Hp}{fl:Str}{v:IV}{y:V}(q:RV K ι H v y):∀{fs:List (Str×IV)}{vs:List (Str×V)},RPs K ι H fs vs->RPs K ι H (putI fl v fs) (putF fl y vs)
 | [],_,h=>by
  have e:_=[]:=h
  subst e
  exact⟨y,[],rfl,q,rfl⟩
 | (g,x)::r,_,h=>by
  obtain⟨w,vr,e,qx,t⟩:=h
  subst e
  show RPs K ι H (if g=fl then(g,v)::r else(g,x)::putI fl v r) (if g=fl then(g,y)::vr else(g,w)::putF fl y vr)
  by_cases hg:g=fl
  ·rw[if_pos hg,if_pos hg]
   exact⟨y,vr,rfl,q,t⟩
  ·rw[if_neg hg,if_neg hg]
   exact⟨w,_,rfl,qx,RPs.put q t⟩
def JR (f:Str)(o e:E1):S1:=λ σ h=>rS σ (e σ h) λ v h1=>rS σ (o σ h1) λ ov h2=>match ov with
 | .ref i=>(match h2[i]? with
  | some (.ins c fs)=>if fs.length<1000 then .next σ (h2.set i (.ins c (putI f v fs))) else .stuck
  | _=>.stuck)
 | _=>.stuck
theorem J37 {fl:Str}{value:Expr}{mv:E1}{pos':Pos}(ho:PEi ce X o mo)(hv:PEi ce X value mv)(hf:Yh ce X.K fl)(hs:Zdg value (Za (.Attribute o fl pos')) pos.line X.env=pure Zj:=by rfl):PS1 ce X (.Assign [.Attribute o fl pos'] value pos) (JR fl mo mv):=by
 intro pj s σ H ι σi h Q E N K
 refine plainObj_wpAny_Assign_Attribute (krun hv N K λ v h1 u s1 H1 ι1 N1 n1 r1 K1=>krun ho N1 K1 λ ov h2 w s2 H2 ι2 N2 n2 r2 K2=>?_) hs
 cases ov with
 | ref i =>
  obtain⟨w,rw',a,e1,hi⟩:=r2
  subst e1
  cases rw'
  dsimp only at K2
  cases hh:h2[i]? with
  | none=>rw[hh] at K2;exact Zf K2
  | some ob =>
   cases ob with
   | ins c fs =>
    rw[hh] at K2
    dsimp only at K2
    split at K2
    ·rename_i hz
     obtain⟨C,dx,vs,hC,hH,rp⟩:=N2.at hh hi
     obtain⟨cl,na⟩:=hf c C hC
     obtain⟨y,ry,q⟩:=r1
     refine Jjb N2.inv hH cl na (by rw[rp.length];exact hz) ry λ s3 I3=>?_
     have n3:Nxt ι2 H2 ι2 (upd H2 a (.ins C dx (putF fl y vs))):=⟨⟨[],by simp⟩,Ext.upd_mut hH (by rw[hH];exact Zaq)⟩
     obtain⟨R3,_⟩:=N2.rel.write (o:=.ins C dx (putF fl y vs)) (io:=.ins c (putI fl v fs)) hi hH (by rw[hH];exact Zaq) ⟨C,dx,_,hC,J7,RPs.put (RV.mono (n2.trans n3) _ _ q) (RPs.mono n3 _ _ rp)⟩
     exact K2 s3 σ _ ι2 ⟨I3,R3,N2.st.mono n3⟩ n3
    ·exact Zf K2
   | _=>rw[hh] at K2;exact Zf K2
 | _=>exact Zf K2
end
section
variable {ce:CeT}{X:Cx}{a b c:Expr}{ma mb mc:E1}{pos:Pos}
def Jf:IV->IV->IH->Res IV
 | .ref i,.int k,h=>match h[i]? with
  | some (.lst xs)=>(match atI xs k with
   | some v=>.ok v h
   | none=>.stuck)
  | _=>.stuck
 | .rol xs,.int k,h=>match atI xs k with
  | some v=>.ok v h
  | none=>.stuck
 | .tup xs,.int k,h=>match atI xs k with
  | some v=>.ok v h
  | none=>.stuck
 | .str x,.int k,h=>if x.length<=sizeLine then(match atI x.cps.toList k with
  | some c=>.ok (.str ⟨#[c]⟩) h
  | none=>.stuck) else .stuck
 | _,_,_=>.stuck
theorem Jjh {K:W.Frag}{ι:List Zm}{H:Hp}{xs:List IV}{vs:List V}{k:Int}{v:IV}(r:RVs K ι H xs vs)(e:atI xs k=Za v):∃u,atI vs k=Za u/\RV K ι H v u:=by
 unfold atI at e ⊢
 rw[r.length]
 cases q:ixN xs.length k with
 | none=>rw[q] at e;cases e
 | some j =>
  rw[q] at e
  exact r.get e
def IxI (ce:CeT)(X:Cx)(g:IV->IV->IH->Res IV):Prop :=
 ∀(value slice:Expr)(pj:PnT)(s:Zl)(σ:L2.St)(H:Hp)(ι:List Zm)(σi:ISt)(h:IH)(x y:IV)(v u:Ze)(Q:QvT)(E:QvT),Now ce X pj ι σi h σ H s->RU X.K ι H x v->RU X.K ι H y u ->
  Kont ce X RU pj ι σi σ H (g x y h) Q E->ZdX slice Zj v u=operate [v,u] (ZdI v u)->Zx (Z8 X.prog X.w) X.A (Zdx value slice v u) Q E s
theorem Jo0 {pj:PnT}{s:Zl}{σ:L2.St}{H:Hp}{Q:QvT}{E:QvT}{r:R2}{value slice:Expr}{x y:V}{v u:Ze}(p:IxR (X.wish E) r)(I:Inv X pj σ H s)(rx:RelV x v)(ry:RelV y u)
  (k:r x y H λ z H'=>∀u s',Inv X pj σ H' s'->RelV z u->Q u s')(hs:ZdX slice Zj v u=operate [v,u] (ZdI v u)):Zx (Z8 X.prog X.w) X.A (Zdx value slice v u) Q E s :=
 Zam (p value slice pj s σ H x y v u _ (I.wish E) rx ry k hs) (λ u s' ⟨_,_,I',r,q⟩=>q u s' I'.unwish r) λ _ _ z=>z
theorem x_ix:IxI ce X Jf:=by
 intro value slice pj s σ H ι σi h x y v u Q E N rx ry K hs
 obtain⟨xv,rx,qx⟩:=rx
 obtain⟨yv,ry,qy⟩:=ry
 cases y with
 | int k =>
  have e2:yv=.int k:=qy
  subst e2
  cases x with
  | ref i =>
   obtain⟨a,e1,ha⟩:=qx
   subst e1
   dsimp only[Jf] at K
   cases hi:h[i]? with
   | none=>rw[hi] at K;exact Zf K
   | some ob =>
    rw[hi] at K
    cases ob with
    | lst xs =>
     dsimp only at K
     cases hk:atI xs k with
     | none=>rw[hk] at K;exact Zf K
     | some z =>
      rw[hk] at K
      obtain⟨vs,e1,r1⟩:=N.at hi ha
      obtain⟨w,hw,qw⟩:=Jjh r1 hk
      exact Jo0 (Jr0 (X:=X.wish E)) N.inv rx ry ⟨a,vs,k,w,rfl,rfl,SqL.of e1,hw,fin0 N K qw⟩ hs
    | _=>exact Zf K
  | rol xs =>
   obtain⟨a,vs,e1,sa,ra⟩:=qx
   subst e1
   dsimp only[Jf] at K
   cases hk:atI xs k with
   | none=>rw[hk] at K;exact Zf K
   | some z =>
    rw[hk] at K
    obtain⟨w,hw,qw⟩:=Jjh ra hk
    exact Jo0 (Jr0 (X:=X.wish E)) N.inv rx ry ⟨a,vs,k,w,rfl,rfl,sa.sq,hw,fin0 N K qw⟩ hs
  | tup xs =>
   obtain⟨a,vs,e1,sa,ra⟩:=qx
   subst e1
   dsimp only[Jf] at K
   cases hk:atI xs k with
   | none=>rw[hk] at K;exact Zf K
   | some z =>
    rw[hk] at K
    obtain⟨w,hw,qw⟩:=Jjh ra hk
    exact Jo0 (J0u (X:=X.wish E)) N.inv rx ry ⟨a,vs,k,w,rfl,rfl,sa,hw,fin0 N K qw⟩ hs
  | str x =>
   have e1:xv=.str x:=qx
   subst e1
   dsimp only[Jf] at K
   split at K
   ·rename_i hz
    cases hk:atI x.cps.toList k with
    | none=>rw[hk] at K;exact Zf K
    | some z =>
     rw[hk] at K
     exact Jo0 (J0t (X:=X.wish E)) N.inv rx ry ⟨x,k,z,rfl,rfl,hz,hk,fin0 N K rfl⟩ hs
   ·exact Zf K
  | _=>exact Zf K
 | _=>cases x<;>exact Zf K
theorem i_ix (hg:IxI ce X g)(ha:PEi ce X a ma)(hb:PEi ce X b mb)(hs:Jqr b:=by intro _ _;rfl):PEi ce X (.Subscript a b pos) (Jc g ma mb):=λ pj s σ H ι σi h Q E N K =>
 Subscript_ (ha.run N K λ x h1 u s1 H1 ι1 N1 n1 r1 K1=>hb.run N1 K1 λ y h2 w s2 H2 ι2 N2 n2 r2 K2=>hg a b pj s2 σ H2 ι2 σi h2 x y u w Q E N2 (r1.mono n2) r2 K2 (hs _ _))
abbrev O1:=ISt->IH->Res (Option Int)
def J2p:REL (Option Int) Ze:=λ _ _ _ o u=>Ze3 u o
def PPi (ce:CeT)(X:Cx)(e:Option Expr)(m:O1):Prop:=PX ce X J2p (evalPart e X.env) m
noncomputable def VF:O1:=λ _ h=>.ok Zc h
def QH (e:E1):O1:=λ σ h=>(e σ h).bind λ v h1=>match v with
 | .int i=>.ok (Za i) h1
 | _=>.stuck
theorem J1l:PPi ce X Zc VF:=by
 intro pj s σ H ι σi h Q E N K
 rw[evalPart_none]
 exact Z0 (K _ s H ι N .refl .none)
theorem J1m (ha:PEi ce X a ma):PPi ce X (Za a) (QH ma):=by
 intro pj s σ H ι σi h Q E N K
 rw[evalPart_some]
 refine ha.run N K λ x h1 u s1 H1 ι1 N1 n1 r1 K1=>?_
 cases x with
 | int i =>
  obtain⟨w,rw',q⟩:=r1
  have e:w=.int i:=q
  subst e
  obtain⟨t,rfl⟩:=rw'
  exact K1 _ s1 H1 ι1 N1 .refl (.int i t)
 | _=>exact Zf K1
def cutI {α:Type}(xs:List α)(lo hi:Option Int):List α:=(xs.drop (HT.sIx xs.length 0 lo)).take (HT.sIx xs.length xs.length hi-HT.sIx xs.length 0 lo)
def slI:IV->Option Int->Option Int->IH->Res IV
 | .ref i,lo,hi,h=>match h[i]? with
  | some (.lst xs)=>.ok (.ref h.length) (h++[.lst (cutI xs lo hi)])
  | _=>.stuck
 | .rol xs,lo,hi,h=>.ok (.ref h.length) (h++[.lst (cutI xs lo hi)])
 | _,_,_,_=>.stuck
theorem RVs.cut {K:W.Frag}{ι:List Zm}{H:Hp}{xs:List IV}{vs:List V}(r:RVs K ι H xs vs)(lo hi:Option Int):RVs K ι H (cutI xs lo hi) (cutV vs lo hi):=by
 unfold cutI cutV
 rw[r.length]
 exact(r.drop _).take _
def eSl (f:IV->Option Int->Option Int->IH->Res IV)(e:E1)(lo hi:O1):E1:=λ σ h=>(e σ h).bind λ x h1=>(lo σ h1).bind λ l h2=>(hi σ h2).bind λ u h3=>f x l u h3
def SlI (ce:CeT)(X:Cx)(g:IV->Option Int->Option Int->IH->Res IV):Prop :=
 ∀(pj:PnT)(s:Zl)(σ:L2.St)(H:Hp)(ι:List Zm)(σi:ISt)(h:IH)(x:IV)(v vl vu:Ze)(lo hi:Option Int)(sl:Zm)(Q:QvT)(E:QvT),Now ce X pj ι σi h σ H s->RU X.K ι H x v->s.heap.IsSliceOf sl vl vu .none->Ze3 vl lo->Ze3 vu hi ->
  Kont ce X RU pj ι σi σ H (g x lo hi h) Q E->∃T id,typeLookup (.type T) "__getitem__"=pure (Za (.builtin id))/\s.TypeIs v T/\Zx (Z8 X.prog X.w) X.A (ZdI v (.ref sl)) Q E s
theorem Jw6 {pj:PnT}{s:Zl}{σ:L2.St}{H:Hp}{Q:QvT}{E:QvT}{r:V->Option Int->Option Int->Hp->VK->Prop}{x:V}{v vl vu:Ze}{lo hi:Option Int}{sl:Zm}(p:SlR (X.wish E) r)(I:Inv X pj σ H s)(rx:RelV x v)
  (hs:s.heap.IsSliceOf sl vl vu .none)(pl:Ze3 vl lo)(pu:Ze3 vu hi)(k:r x lo hi H λ z H'=>∀u s',Inv X pj σ H' s'->RelV z u->Q u s') :
  ∃T id,typeLookup (.type T) "__getitem__"=pure (Za (.builtin id))/\s.TypeIs v T/\Zx (Z8 X.prog X.w) X.A (ZdI v (.ref sl)) Q E s:=by
 obtain⟨T,id,h1,h2,h3⟩:=p pj s σ H x v vl vu lo hi sl _ (I.wish E) rx hs pl pu k
 exact⟨T,id,h1,h2,Zam h3 (λ u s' ⟨_,_,I',r,q⟩=>q u s' I'.unwish r) λ _ _ z=>z⟩
theorem Jya {g:IV->Option Int->Option Int->IH->Res IV}{lo hi:Option Expr}{ml mh:O1}{p2:Pos}(hr:SlI ce X g)(he:PEi ce X a ma)(hl:PPi ce X lo ml)(hu:PPi ce X hi mh):PEi ce X (.Subscript a (.Slice lo hi Zc p2) pos) (eSl g ma ml mh):=by
 intro pj s σ H ι σi h Q E N K
 refine Subscript_ (he.run N K λ x h1 v s1 H1 ι1 N1 n1 r1 K1=>?_)
 refine wpAny_Slice (PX.run hl N1 K1 λ l h2 vl s2 H2 ι2 N2 n2 pl K2=>PX.run hu N2 K2 λ u h3 vu s3 H3 ι3 N3 n3 pu K3=>?_)
 rw[evalPart_none]
 refine Z0 ?_
 have I4:Inv X pj σ H3 { s3 with heap:=s3.heap.push { cls:=.type "slice",data:=.fields #[vl,vu,.none] } }:=N3.inv.kept (t':=s3.toks) λ b ob q=>Zh _ q
 obtain⟨T,id,hT,ht,hg⟩:=hr pj { s3 with heap:=s3.heap.push { cls:=.type "slice",data:=.fields #[vl,vu,.none] } } σ H3 ι3 σi h3 x v vl vu l u s3.heap.objs.size Q E ⟨I4,N3.rel,N3.st⟩ ((r1.mono n2).mono n3) (Heap.IsSliceOf.new ..) pl pu K3
 show Zx (Z8 X.prog X.w) X.A (Zdx a (.Slice lo hi Zc p2) v (.ref s3.heap.objs.size)) Q E { s3 with heap:=s3.heap.push { cls:=.type "slice",data:=.fields #[vl,vu,.none] } }
 exact tail_any (ops:=[.ref s3.heap.objs.size,v]) ht hT hg (by with_unfolding_all rfl)
def eCB (f:List IV->IH->Res IV)(a:A1):E1:=λ σ h=>(a σ h).bind f
variable {es:List Expr}{mr:A1}{x:Str}{p:Pos}{id T:String}{g:List IV->IH->Res IV}
theorem V7 (hc:Qi ce X (.builtin id) g)(hg:Gl X x)(hm:X.mg x=Zc)(hv:ZbY x=Za (.builtin id))(ha:PAi ce X (a::es) mr)(hn:x≠"__name__":=by decide)(hdb:(x==("__debug__":Str))=Zj:=by decide) 
  (he:ZG (a::es) X.env=(Zj,Zbe a X.env)::ZG es X.env:=by rfl)(hpl:(Zbj pos (ZG es X.env)).any (·.1)=Zj:=by rfl):PEi ce X (.Call (.Name x p) (a::es) [] pos) (eCB g mr):=λ pj s σ H ι σi h Q E N K =>
 Zak (QG N.inv hg hm hv (ZbE ((ha pos).run N K λ xs h1 us s1 H1 ι1 N1 n1 r1 K1=>hc pj s1 σ H1 ι1 σi h1 xs us Q E N1 r1 K1) he hpl) hn hdb)
theorem Jne (hc:Qi ce X (.type T) g)(hg:Gl X x)(hm:X.mg x=Zc)(hv:ZbY x=Za (.type T))(ha:PAi ce X (a::es) mr)(hn:x≠"__name__":=by decide)(hdb:(x==("__debug__":Str))=Zj:=by decide) 
  (he:ZG (a::es) X.env=(Zj,Zbe a X.env)::ZG es X.env:=by rfl)(hpl:(Zbj pos (ZG es X.env)).any (·.1)=Zj:=by rfl):PEi ce X (.Call (.Name x p) (a::es) [] pos) (eCB g mr):=λ pj s σ H ι σi h Q E N K =>
 Zak (QG N.inv hg hm hv (ZaR ((ha pos).run N K λ xs h1 us s1 H1 ι1 N1 n1 r1 K1=>hc pj s1 σ H1 ι1 σi h1 xs us Q E N1 r1 K1) he hpl) hn hdb)
def on1 (f:IV->IH->Res IV):List IV->IH->Res IV
 | [x],h=>f x h
 | _,_=>.stuck
def on2 (f:IV->IV->IH->Res IV):List IV->IH->Res IV
 | [x,y],h=>f x y h
 | _,_=>.stuck
theorem RVs.one_of {K:W.Frag}{ι:List Zm}{H:Hp}{x:IV}{vs:List V}(r:RVs K ι H [x] vs):∃v,vs=[v]/\RV K ι H x v:=by
 obtain⟨v,r',e,q,q2⟩:=r
 have e2:r'=[]:=q2
 subst e2
 exact⟨v,e,q⟩
theorem RVs.two_of {K:W.Frag}{ι:List Zm}{H:Hp}{x y:IV}{vs:List V}(r:RVs K ι H [x,y] vs):∃v w,vs=[v,w]/\RV K ι H x v/\RV K ι H y w:=by
 obtain⟨v,r',e,q,r2⟩:=r
 obtain⟨w,e2,q2⟩:=r2.one_of
 subst e2
 exact⟨v,w,e,q,q2⟩
theorem Vi {fv:Ze}{f:IV->IH->Res IV}(hh:∀(pj:PnT)(s:Zl)(σ:L2.St)(H:Hp)(ι:List Zm)(σi:ISt)(h:IH)(x:IV)(xv:V)(u:Ze)(Q:QvT)(E:QvT),Now ce X pj ι σi h σ H s->RelV xv u->RV X.K ι H x xv ->
  Kont ce X RU pj ι σi σ H (f x h) Q E->Zx (Z8 X.prog X.w) X.A (call fv [u]) Q E s):Qi ce X fv (on1 f):=by
 intro pj s σ H ι σi h xs us Q E N r K
 obtain⟨vs,rv,q⟩:=r
 match xs,K with
 | [x],K =>
  obtain⟨v,e,qx⟩:=q.one_of
  subst e
  obtain⟨u,rfl,ru⟩:=Q0 rv
  exact hh pj s σ H ι σi h x v u Q E N ru qx K
 | [],K=>exact Zf K
 | _::_::_,K=>exact Zf K
noncomputable def lenI:IV->IH->Res IV
 | .str x,h=>if x.length<=sizeLine then .ok (.int x.length) h else .stuck
 | .tup xs,h=>.ok (.int xs.length) h
 | .rol xs,h=>.ok (.int xs.length) h
 | .ref i,h=>match h[i]? with
  | some (.lst xs)=>.ok (.int xs.length) h
  | _=>.stuck
 | _,_=>.stuck
theorem J2t:Qi ce X (.builtin "len") (on1 lenI):=Vi λ pj s σ H ι σi h x xv u Q E N ru qx K=>by
 cases x with
 | str y =>
  have e:xv=.str y:=qx
  subst e
  dsimp only[lenI] at K
  split at K
  ·rename_i hz
   exact Q7 (Jgu (X:=X.wish E)) N.inv (.cons ru .nil) ⟨_,_,rfl,⟨hz,rfl⟩,fin0 N K rfl⟩
  ·exact Zf K
 | tup xs =>
  obtain⟨a,vs,e1,sa,ra⟩:=qx
  subst e1
  exact Q7 (Jgu (X:=X.wish E)) N.inv (.cons ru .nil) ⟨_,xs.length,rfl,.inr ⟨vs,sa,ra.length.symm⟩,fin0 N K rfl⟩
 | rol xs =>
  obtain⟨a,vs,e1,sa,ra⟩:=qx
  subst e1
  exact Q7 (Jgu (X:=X.wish E)) N.inv (.cons ru .nil) ⟨_,xs.length,rfl,.inl ⟨vs,sa.sq,ra.length.symm⟩,fin0 N K rfl⟩
 | ref i =>
  obtain⟨a,e1,ha⟩:=qx
  subst e1
  dsimp only[lenI] at K
  cases hi:h[i]? with
  | none=>rw[hi] at K;exact Zf K
  | some ob =>
   rw[hi] at K
   cases ob with
   | lst xs =>
    obtain⟨vs,e1,r1⟩:=N.at hi ha
    exact Q7 (Jgu (X:=X.wish E)) N.inv (.cons ru .nil) ⟨_,xs.length,rfl,.inl ⟨vs,SqL.of e1,r1.length.symm⟩,fin0 N K rfl⟩
   | _=>exact Zf K
 | _=>exact Zf K
end
def ALen (n:Nat)(m:A1):Prop:=∀σ h xs h',m σ h=.ok xs h'->xs.length=n
theorem Jtm:ALen 0 Jd:=λ _ _ xs _ e=>by
 unfold Jd at e
 cases e
 rfl
theorem Jqu (hr:ALen n r):ALen (n+1) (Jb e r):=λ σ h xs h' q=>by
 unfold Jb at q
 cases e1:e σ h with
 | ok x h1 =>
  rw[e1] at q
  change (r σ h1).bind (λ xs h2=>.ok (x::xs) h2)=_ at q
  cases e2:r σ h1 with
  | ok ys h2 =>
   rw[e2] at q
   cases q
   rw[ZB,hr σ h1 ys _ e2]
  | exc n h2=>rw[e2] at q;cases q
  | stuck=>rw[e2] at q;cases q
 | exc n h1=>rw[e1] at q;cases q
 | stuck=>rw[e1] at q;cases q
def XT (K:W.Frag)(x:Str)(f:List IV->IH->Res IV):Sp:=λ vs H Q E=>∀ce,spI ce K [x] f vs H Q E
theorem Jt0 {P:ZA}{w:ZW}{K:W.Frag}{mg:Str->Option Ze}{base:Zas}{k:Nat}{fa:Zm}{fd:ZaD}{x:Str}{f:List IV->IH->Res IV}{ce:CeT}(F:FnOk P w K mg base (CXI P w) k fa fd [x] (spI ce K [x] f)) :
  FnOk P w K mg base (CXI P w) k fa fd [x] (XT K x f):=F.imp λ _ _ _ _ h=>h ce
noncomputable def toD (h:IH):Nat->IV->Option ZcM
 | 0=>λ v=>match v with
  | .non=>Za .none
  | .bl b=>Za (.bool b)
  | .int i=>Za (.int i)
  | .str x=>Za (.str x)
  | _=>Zc
 | n+1=>λ v=>match v with
  | .non=>Za .none
  | .bl b=>Za (.bool b)
  | .int i=>Za (.int i)
  | .str x=>Za (.str x)
  | .tup xs=>(xs.mapM (toD h n)).map .tuple
  | .rol xs=>(xs.mapM (toD h n)).map .list
  | .ref i=>match h[i]? with
   | some (.lst xs)=>(xs.mapM (toD h n)).map .list
   | _=>Zc
section
variable {ce:CeT}{X:Cx}
theorem Jci {n:Nat}(N:Now ce X pj ι σi h σ H s) 
  (ih:∀(v:IV)(d:ZcM)(x:V)(u:Ze),toD h n v=Za d->RV X.K ι H v x->RelV x u->∃as,Reads s.heap u d as) :
  ∀(xs:List IV)(ds:List ZcM)(vs:List V)(us:List Ze),xs.mapM (toD h n)=Za ds->RVs X.K ι H xs vs->Vals vs us->∃as,ReadsAll s.heap us ds as
 | [],ds,vs,us,e,q,r=>by
  have e1:vs=[]:=q
  subst e1
  cases r
  simp at e
  subst e
  exact⟨_,.nil⟩
 | x::xs,ds,vs,us,e,q,r=>by
  obtain⟨v,vr,e1,q1,q2⟩:=q
  subst e1
  cases r with
  | cons r1 r2 =>
   rw[ZbF] at e
   cases e2:toD h n x with
   | none=>rw[e2] at e;cases e
   | some d =>
    rw[e2] at e
    cases e3:xs.mapM (toD h n) with
    | none=>rw[e3] at e;cases e
    | some dr =>
     rw[e3] at e
     cases e
     obtain⟨as,h1⟩:=ih x d v _ e2 q1 r1
     obtain⟨bs,h2⟩:=Jci N ih xs dr vr _ e3 q2 r2
     exact⟨_,.cons h1 h2⟩
theorem Jg1 (N:Now ce X pj ι σi h σ H s):∀(n:Nat)(v:IV)(d:ZcM)(x:V)(u:Ze),toD h n v=Za d->RV X.K ι H v x->RelV x u->∃as,Reads s.heap u d as:=by
 have flat:∀(v:IV)(d:ZcM)(x:V)(u:Ze),toD h 0 v=Za d->RV X.K ι H v x->RelV x u->∃as,Reads s.heap u d as:=by
  intro v d x u e q r
  cases v with
  | non=>cases e;have e1:x=.non:=q;subst e1;cases r;exact⟨_,.none⟩
  | bl b=>cases e;have e1:x=.bl b:=q;subst e1;cases r;exact⟨_,.bool b⟩
  | int i=>cases e;have e1:x=.int i:=q;subst e1;obtain⟨t,rfl⟩:=r;exact⟨_,.int i t⟩
  | str z=>cases e;have e1:x=.str z:=q;subst e1;obtain⟨t,rfl⟩:=r;exact⟨_,.str z t⟩
  | _=>cases e
 intro n
 induction n with
 | zero=>exact flat
 | succ n ih =>
  intro v d x u e q r
  cases v with
  | non=>exact flat .non d x u e q r
  | bl b=>exact flat (.bl b) d x u e q r
  | int i=>exact flat (.int i) d x u e q r
  | str z=>exact flat (.str z) d x u e q r
  | tup xs =>
   obtain⟨a,vs,e1,sa,ra⟩:=q
   subst e1
   cases r
   obtain⟨ds,e2,rfl⟩:=ZF.mp (show(xs.mapM (toD h n)).map Zdd=Za d from e)
   obtain⟨its,rv,⟨o,ho,hc,m,hd⟩,hz⟩:=N.inv.tuple sa
   obtain⟨as,h1⟩:=Jci N ih xs ds vs its e2 ra rv
   exact⟨_,.tuple ho hc hd h1⟩
  | rol xs =>
   obtain⟨a,vs,e1,sa,ra⟩:=q
   subst e1
   cases r
   obtain⟨ds,e2,rfl⟩:=ZF.mp (show(xs.mapM (toD h n)).map Zcy=Za d from e)
   obtain⟨its,rv,⟨o,m,ho,hc,_,hd⟩,hz⟩:=N.inv.list sa.sq
   obtain⟨as,h1⟩:=Jci N ih xs ds vs its e2 ra rv
   exact⟨_,.list ho hc hd h1⟩
  | ref i =>
   obtain⟨a,e1,ha⟩:=q
   subst e1
   cases r
   have e':(match h[i]? with|some (.lst xs)=>(xs.mapM (toD h n)).map Zcy|_=>Zc)=Za d:=e
   cases hi:h[i]? with
   | none=>rw[hi] at e';cases e'
   | some ob =>
    rw[hi] at e'
    cases ob with
    | lst xs =>
     obtain⟨ds,e2,rfl⟩:=ZF.mp e'
     obtain⟨vs,e1,r1⟩:=N.at hi ha
     obtain⟨its,rv,⟨o,m,ho,hc,_,hd⟩,hz⟩:=N.inv.list (SqL.of e1)
     obtain⟨as,h1⟩:=Jci N ih xs ds vs its e2 r1 rv
     exact⟨_,.list ho hc hd h1⟩
    | _=>cases e'
theorem Jcg (hf:∀v d,f v=Za d->d.depth<=n):∀(xs:List IV)(ds:List ZcM),xs.mapM f=Za ds->PyData.depthAll ds<=n
 | [],ds,e=>by simp at e;subst e;exact ZX _
 | x::xs,ds,e=>by
  rw[ZbF] at e
  cases e2:f x with
  | none=>rw[e2] at e;cases e
  | some d =>
   rw[e2] at e
   cases e3:xs.mapM f with
   | none=>rw[e3] at e;cases e
   | some dr =>
    rw[e3] at e
    cases e
    have h1:=hf x d e2
    have h2:=Jcg hf xs dr e3
    show max d.depth (PyData.depthAll dr)<=n
    omega
theorem Jmt:∀(n:Nat)(v:IV)(d:ZcM),toD h n v=Za d->d.depth<=n:=by
 intro n
 induction n with
 | zero =>
  intro v d e
  cases v<;>cases e<;>exact Zo _
 | succ n ih =>
  intro v d e
  cases v with
  | non=>cases e;exact ZX _
  | bl b=>cases e;exact ZX _
  | int i=>cases e;exact ZX _
  | str z=>cases e;exact ZX _
  | tup xs =>
   obtain⟨ds,e2,rfl⟩:=ZF.mp (show(xs.mapM (toD h n)).map Zdd=Za d from e)
   exact ZcK (Jcg ih xs ds e2)
  | rol xs =>
   obtain⟨ds,e2,rfl⟩:=ZF.mp (show(xs.mapM (toD h n)).map Zcy=Za d from e)
   exact ZcK (Jcg ih xs ds e2)
  | ref i =>
   have e':(match h[i]? with|some (.lst xs)=>(xs.mapM (toD h n)).map Zcy|_=>Zc)=Za d:=e
   cases hi:h[i]? with
   | none=>rw[hi] at e';cases e'
   | some ob =>
    rw[hi] at e'
    cases ob with
    | lst xs =>
     obtain⟨ds,e2,rfl⟩:=ZF.mp e'
     exact ZcK (Jcg ih xs ds e2)
    | _=>cases e'
noncomputable def Vr:IV->IV->Option Bool
 | .non,.non=>Za Zg
 | .int i,.int j=>Za (decide (i=j))
 | .str i,.str j=>Za (decide (i=j))
 | .bl i,.bl j=>Za (decide (i=j))
 | _,_=>Zc
noncomputable def Qv (x y:IV)(h:IH):Option Bool:=match toD h 6 x,toD h 6 y with
 | some a,Za b=>if a.canLay0=Zg/\b.canLay0=Zg then Za (Zbv a b) else Zc
 | _,_=>Zc
noncomputable def cEq (x y:IV)(h:IH):Res IV:=match Vr x y with
 | some b=>.ok (.bl b) h
 | none=>match Qv x y h with
  | some b=>.ok (.bl b) h
  | none=>.stuck
noncomputable def cNe (x y:IV)(h:IH):Res IV:=match Vr x y with
 | some b=>.ok (.bl (!b)) h
 | none=>match Qv x y h with
  | some b=>.ok (.bl (!b)) h
  | none=>.stuck
theorem Joc (e:Qv x y h=Za b):∃da db,toD h 6 x=Za da/\toD h 6 y=Za db/\da.canLay0=Zg/\db.canLay0=Zg/\b=Zbv da db:=by
 unfold Qv at e
 cases e1:toD h 6 x with
 | none=>rw[e1] at e;cases e
 | some da =>
  cases e2:toD h 6 y with
  | none=>rw[e1,e2] at e;cases e
  | some db =>
   rw[e1,e2] at e
   dsimp only at e
   split at e
   ·rename_i hz
    cases e
    exact⟨da,db,rfl,rfl,hz.1,hz.2,rfl⟩
   ·cases e
theorem Jmq {K:W.Frag}{ι:List Zm}{H:Hp}{x y:IV}{b:Bool}{xv yv:V}(e:Vr x y=Za b)(qx:RV K ι H x xv)(qy:RV K ι H y yv):scal xv yv=Zg/\decide (xv=yv)=b:=by
 cases x with
 | non =>
  cases y with
  | non=>cases e;cases (show xv=.non from qx);cases (show yv=.non from qy);exact⟨rfl,rfl⟩
  | _=>cases e
 | int i =>
  cases y with
  | int j=>cases e;cases (show xv=.int i from qx);cases (show yv=.int j from qy);exact⟨rfl,by simp⟩
  | _=>cases e
 | str i =>
  cases y with
  | str j=>cases e;cases (show xv=.str i from qx);cases (show yv=.str j from qy);exact⟨rfl,by simp⟩
  | _=>cases e
 | bl i =>
  cases y with
  | bl j=>cases e;cases (show xv=.bl i from qx);cases (show yv=.bl j from qy);exact⟨rfl,by simp⟩
  | _=>cases e
 | _=>cases y<;>cases e
theorem o_eq (hu:X.A.units+64<Zeu):OpI ce X (Zav .Eq) cEq:=by
 intro pj s σ H ι σi h x y v u Q E N rx ry K
 obtain⟨xv,rx,qx⟩:=rx
 obtain⟨yv,ry,qy⟩:=ry
 unfold cEq at K
 cases es:Vr x y with
 | some b =>
  rw[es] at K
  obtain⟨h1,h2⟩:=Jmq es qx qy
  exact Qe (J3s (X:=X.wish E)) N.inv rx ry ⟨h1,by rw[h2];exact fin0 N K rfl⟩
 | none =>
  rw[es] at K
  dsimp only at K
  cases ed:Qv x y h with
  | none=>rw[ed] at K;exact Zf K
  | some b =>
   rw[ed] at K
   obtain⟨da,db,e1,e2,c1,c2,rfl⟩:=Joc ed
   obtain⟨as,r1⟩:=Jg1 N 6 x da xv v e1 qx rx
   obtain⟨bs,r2⟩:=Jg1 N 6 y db yv u e2 qy ry
   have d1:=Jmt 6 x da e1
   exact PySem.SeqAt.compareEq_reads r1 r2 c1 c2 (by omega) (fin0 N K rfl _ s N.inv rfl)
theorem o_ne (hu:X.A.units+64<Zeu):OpI ce X (Zav .NotEq) cNe:=by
 intro pj s σ H ι σi h x y v u Q E N rx ry K
 obtain⟨xv,rx,qx⟩:=rx
 obtain⟨yv,ry,qy⟩:=ry
 unfold cNe at K
 cases es:Vr x y with
 | some b =>
  rw[es] at K
  obtain⟨h1,h2⟩:=Jmq es qx qy
  exact Qe (J3x (X:=X.wish E)) N.inv rx ry ⟨h1,by rw[h2];exact fin0 N K rfl⟩
 | none =>
  rw[es] at K
  dsimp only at K
  cases ed:Qv x y h with
  | none=>rw[ed] at K;exact Zf K
  | some b =>
   rw[ed] at K
   obtain⟨da,db,e1,e2,c1,c2,rfl⟩:=Joc ed
   obtain⟨as,r1⟩:=Jg1 N 6 x da xv v e1 qx rx
   obtain⟨bs,r2⟩:=Jg1 N 6 y db yv u e2 qy ry
   have d1:=Jmt 6 x da e1
   exact PySem.SeqAt.compareNe_reads r1 r2 c1 c2 (by omega) (fin0 N K rfl _ s N.inv rfl)
noncomputable def isI:IV->IV->Option Bool
 | .non,.non=>Za Zg
 | .bl a,.bl b=>Za (a==b)
 | .bl _,.non=>Za Zj
 | .int _,.non=>Za Zj
 | .str _,.non=>Za Zj
 | .tup _,.non=>Za Zj
 | .rol _,.non=>Za Zj
 | .ref _,.non=>Za Zj
 | .non,.bl _=>Za Zj
 | .int _,.bl _=>Za Zj
 | .str _,.bl _=>Za Zj
 | .tup _,.bl _=>Za Zj
 | .rol _,.bl _=>Za Zj
 | .ref _,.bl _=>Za Zj
 | _,_=>Zc
noncomputable def cIs (x y:IV)(h:IH):Res IV:=match isI x y with
 | some b=>.ok (.bl b) h
 | none=>.stuck
noncomputable def Jn7 (x y:IV)(h:IH):Res IV:=match isI x y with
 | some b=>.ok (.bl (!b)) h
 | none=>.stuck
theorem Jwe {K:W.Frag}{ι:List Zm}{H:Hp}{x y:IV}{b:Bool}{v u:Ze}(e:isI x y=Za b)(rx:RU K ι H x v)(ry:RU K ι H y u):plainIs v u=Zg/\(v==u)=b:=by
 obtain⟨xv,rx,qx⟩:=rx
 obtain⟨yv,ry,qy⟩:=ry
 cases y with
 | non =>
  cases (show yv=.non from qy)
  cases ry
  cases x with
  | non=>cases e;cases (show xv=.non from qx);cases rx;exact⟨rfl,rfl⟩
  | bl c=>cases e;cases (show xv=.bl c from qx);cases rx;exact⟨rfl,rfl⟩
  | int c=>cases e;cases (show xv=.int c from qx);obtain⟨t,rfl⟩:=rx;exact⟨rfl,rfl⟩
  | str c=>cases e;cases (show xv=.str c from qx);obtain⟨t,rfl⟩:=rx;exact⟨rfl,rfl⟩
  | tup c=>cases e;obtain⟨a,vs,rfl,_⟩:=qx;cases rx;exact⟨rfl,rfl⟩
  | rol c=>cases e;obtain⟨a,vs,rfl,_⟩:=qx;cases rx;exact⟨rfl,rfl⟩
  | ref c=>cases e;obtain⟨a,rfl,_⟩:=qx;cases rx;exact⟨rfl,rfl⟩
 | bl d =>
  cases (show yv=.bl d from qy)
  cases ry
  cases x with
  | non=>cases e;cases (show xv=.non from qx);cases rx;exact⟨rfl,rfl⟩
  | bl c=>cases e;cases (show xv=.bl c from qx);cases rx;cases c<;>cases d<;>exact⟨rfl,rfl⟩
  | int c=>cases e;cases (show xv=.int c from qx);obtain⟨t,rfl⟩:=rx;exact⟨rfl,rfl⟩
  | str c=>cases e;cases (show xv=.str c from qx);obtain⟨t,rfl⟩:=rx;exact⟨rfl,rfl⟩
  | tup c=>cases e;obtain⟨a,vs,rfl,_⟩:=qx;cases rx;exact⟨rfl,rfl⟩
  | rol c=>cases e;obtain⟨a,vs,rfl,_⟩:=qx;cases rx;exact⟨rfl,rfl⟩
  | ref c=>cases e;obtain⟨a,rfl,_⟩:=qx;cases rx;exact⟨rfl,rfl⟩
 | _=>cases x<;>cases e
theorem o_is:OpI ce X (Zav .Is) cIs:=by
 intro pj s σ H ι σi h x y v u Q E N rx ry K
 unfold cIs at K
 cases ei:isI x y with
 | none=>rw[ei] at K;exact Zf K
 | some b =>
  rw[ei] at K
  obtain⟨h1,h2⟩:=Jwe ei rx ry
  exact wpAny_is_plain h1 (by rw[h2];exact fin0 N K rfl _ s N.inv rfl)
theorem Jyo:OpI ce X (Zav .IsNot) Jn7:=by
 intro pj s σ H ι σi h x y v u Q E N rx ry K
 unfold Jn7 at K
 cases ei:isI x y with
 | none=>rw[ei] at K;exact Zf K
 | some b =>
  rw[ei] at K
  obtain⟨h1,h2⟩:=Jwe ei rx ry
  exact wpAny_isNot_plain h1 (by rw[h2];exact fin0 N K rfl _ s N.inv rfl)
inductive Ty where
 | non|bl|int|str|lst|tup|dct|ins (c:Str)|exc (c:Str)
noncomputable def tyI:IV->IH->Option Ty
 | .non,_=>Za .non
 | .bl _,_=>Za .bl
 | .int _,_=>Za .int
 | .str _,_=>Za .str
 | .tup _,_=>Za .tup
 | .rol _,_=>Za .lst
 | .ref i,h=>match h[i]? with
  | some (.lst _)=>Za .lst
  | some (.dct _)=>Za .dct
  | some (.ins c _)=>Za (.ins c)
  | _=>Zc
structure ClsI (K:W.Frag)(C:Zm):Prop where
 cl:Cls K C
 ha:W.findIn K (.ref C) "__class__"=Za (Za (.builtin "object.__class__"))
 hn:W.specialIn K (.builtin "object.__class__") "__get__"=Za (Za (.builtin "getset_descriptor.__get__"))
 htk:W.takesIn K (.builtin "object.__class__")=Za Zg
 hm:W.mroIn K C (.type "object")=Za Zg
structure IsOk (ce:CeT)(K:W.Frag)(c:Ze)(ans:Ty->Option Bool):Prop where
 non:∀b,ans .non=Za b->W.kitOne K (.type "NoneType") c=Za b
 bl:∀b,ans .bl=Za b->W.kitOne K (.type "bool") c=Za b
 int:∀b,ans .int=Za b->W.kitOne K (.type "int") c=Za b
 str:∀b,ans .str=Za b->W.kitOne K (.type "str") c=Za b
 lst:∀b,ans .lst=Za b->W.kitOne K (.type "list") c=Za b
 tup:∀b,ans .tup=Za b->W.kitOne K (.type "tuple") c=Za b
 dct:∀b,ans .dct=Za b->W.kitOne K (.type "dict") c=Za b
 ins:∀k C b,ans (.ins k)=Za b->ce k=Za C->ClsI K C/\W.kitOne K (.ref C) c=Za b
 exc:∀k C b,ans (.exc k)=Za b->W.nsIn K Zz k=Za (Za (.ref C))->ExI K C/\W.kitOne K (.ref C) c=Za b
def eIsi (ans:Ty->Option Bool)(e:E1):E1:=λ σ h=>(e σ h).bind λ v h1=>match (tyI v h1).bind ans with
 | some b=>.ok (.bl b) h1
 | none=>.stuck
theorem Jyc {b:Bool}{Q:QvT}{E:QvT}{A:ZO}(N:Now ce X pj ι σi h σ H s)(rx:RU X.K ι H x u)(O:IsOk ce X.K c ans) 
  (e:(tyI x h).bind ans=Za b)(hq:∀tk,Q (.bool b) { s with toks:=tk }):Zx (Z8 X.prog X.w) A (call (.builtin "isinstance") [u,c]) Q E s:=by
 obtain⟨xv,rx,qx⟩:=rx
 cases x with
 | non=>cases (show xv=.non from qx);cases rx;exact W.kia_one W.kitx_none N.inv.kIn Zaq (O.non b e) (λ z=>nomatch z) hq
 | bl i=>cases (show xv=.bl i from qx);cases rx;exact W.kia_one W.kitx_bool N.inv.kIn Zaq (O.bl b e) (λ z=>nomatch z) hq
 | int i=>cases (show xv=.int i from qx);obtain⟨t,rfl⟩:=rx;exact W.kia_one W.kitx_int N.inv.kIn Zaq (O.int b e) (λ z=>nomatch z) hq
 | str i=>cases (show xv=.str i from qx);obtain⟨t,rfl⟩:=rx;exact W.kia_one W.kitx_str N.inv.kIn Zaq (O.str b e) (λ z=>nomatch z) hq
 | tup xs =>
  obtain⟨a,vs,rfl,sa,_⟩:=qx
  cases rx
  obtain⟨its,rv,⟨o,ho,hc,m,hd⟩,hz⟩:=N.inv.tuple sa
  exact W.kia_one W.kitx_tuple N.inv.kIn ⟨o,ho,hc⟩ (O.tup b e) (λ z=>nomatch z) hq
 | rol xs =>
  obtain⟨a,vs,rfl,sa,_⟩:=qx
  cases rx
  obtain⟨its,rv,⟨o,m,ho,hc,_,hd⟩,hz⟩:=N.inv.list sa.sq
  exact W.kia_one W.kitx_list N.inv.kIn ⟨o,ho,hc⟩ (O.lst b e) (λ z=>nomatch z) hq
 | ref i =>
  obtain⟨a,rfl,ha⟩:=qx
  cases rx
  cases hi:h[i]? with
  | none=>simp[tyI,hi] at e
  | some ob =>
   cases ob with
   | lst xs =>
    simp only[tyI,hi] at e
    obtain⟨vs,e1,r1⟩:=N.at hi ha
    obtain⟨its,rv,⟨o,m,ho,hc,_,hd⟩,hz⟩:=N.inv.list (SqL.of e1)
    exact W.kia_one W.kitx_list N.inv.kIn ⟨o,ho,hc⟩ (O.lst b e) (λ z=>nomatch z) hq
   | dct kvs =>
    simp only[tyI,hi] at e
    obtain⟨vs,e1,r1⟩:=N.at hi ha
    obtain⟨_,_,ws,_,p⟩:=(show JM X.prog X.w H s.heap a (.dK vs) from N.inv.hok a _ e1)
    obtain⟨o,es,ep,h1,h2,_⟩:=p
    exact W.kia_one W.kitx_dict N.inv.kIn ⟨o,h1,h2.1⟩ (O.dct b e) (λ z=>nomatch z) hq
   | ins c fs =>
    simp only[tyI,hi] at e
    obtain⟨C,dx,vs,hC,hH,rp⟩:=N.at hi ha
    obtain⟨I,hk⟩:=O.ins c C b e hC
    obtain⟨mA,Ob,_⟩:=Jj5 N.inv.hok hH
    obtain⟨od,J,_⟩:=Ob.look
    exact W.kia_one (W.kitx_own (I.cl.get _) I.cl.hd I.ha I.hn I.htk I.hm) N.inv.kIn J hk (λ z=>nomatch z) hq
   | exc c fs=>simp[tyI,hi] at e
   | hld c fs=>simp[tyI,hi] at e
   | tab q=>simp[tyI,hi] at e
variable {a cx:Expr}{ma:E1}{pos p:Pos}
def ClsE (X:Cx)(cx:Expr)(c:Ze):Prop:=∀(pj:PnT)(σ:L2.St)(H:Hp)(s:Zl)(Q:QvT)(E:QvT),Inv X pj σ H s->Q c s->Zx (Z8 X.prog X.w) X.A (Zbe cx X.env) Q E s
theorem Yl (hg:Gl X x)(hm:X.mg x=Zc)(hv:ZbY x=Za c)(hn:x≠"__name__":=by decide)(hdb:(x==("__debug__":Str))=Zj:=by decide):ClsE X (.Name x p) c:=λ _ _ _ _ _ _ I q=>QG I hg hm hv q hn hdb
theorem Jxl (hg:Gl X x)(hm:X.mg x=Za c)(hdb:(x==("__debug__":Str))=Zj:=by decide):ClsE X (.Name x p) c:=λ _ _ _ _ _ _ I q=>Xp I hg hm q hdb
theorem J3b {ans:Ty->Option Bool}{c:Ze}(hc:ClsE X cx c)(O:IsOk ce X.K c ans)(ha:PEi ce X a ma)(hg:Gl X "isinstance")(hm:X.mg "isinstance"=Zc)(hv:ZbY "isinstance"=Za (.builtin "isinstance"):=by rfl)
  (he:ZG [a,cx] X.env=(Zj,Zbe a X.env)::ZG [cx] X.env:=by rfl)(he2:ZG [cx] X.env=(Zj,Zbe cx X.env)::ZG [] X.env:=by rfl)(hpl:(Zbj pos (ZG [cx] X.env)).any (·.1)=Zj:=by rfl):PEi ce X (.Call (.Name "isinstance" p) [a,cx] [] pos) (eIsi ans ma):=by
 intro pj s σ H ι σi h Q E N K
 refine Zak (QG N.inv hg hm hv ?_ (by decide) (by decide))
 refine ZbE ?_ he hpl
 rw[he]
 show Zx _ _ (spliced ((Zj,Zbe a X.env)::Zbj pos (ZG [cx] X.env))) _ _ s
 refine Zdm (ha.run N K λ x h1 u s1 H1 ι1 N1 n1 r1 K1=>?_)
 rw[he2]
 show Zx _ _ (spliced ((Zj,Zbe cx X.env)::Zbj pos (ZG [] X.env))) _ _ s1
 refine Zdm (hc pj σ H1 s1 _ E N1.inv ?_)
 refine Calls.spliced_nil ?_
 cases e:(tyI x h1).bind ans with
 | none=>rw[e] at K1;exact Zf K1
 | some b =>
  rw[e] at K1
  exact Jyc N1 r1 O e λ tk=>K1 _ _ H1 ι1 ⟨N1.inv.tok tk,N1.rel,N1.st⟩ .refl ⟨.bl b,rfl,rfl⟩
def VO:Ty->Option Bool
 | .int=>Za Zg|.bl=>Za Zg|.ins _=>Zc|.exc _=>Zc|_=>Za Zj
def VN:Ty->Option Bool
 | .bl=>Za Zg|.ins _=>Zc|.exc _=>Zc|_=>Za Zj
def VQ:Ty->Option Bool
 | .str=>Za Zg|.ins _=>Zc|.exc _=>Zc|_=>Za Zj
def Vf:Ty->Option Bool
 | .lst=>Za Zg|.ins _=>Zc|.exc _=>Zc|_=>Za Zj
def V5:Ty->Option Bool
 | .tup=>Za Zg|.ins _=>Zc|.exc _=>Zc|_=>Za Zj
theorem Jry {K:W.Frag}:IsOk ce K (.type "bool") VN:=by
 refine⟨?_,?_,?_,?_,?_,?_,?_,(λ k C b e=>by cases e),(λ k C b e=>by cases e)⟩<;>(intro b e;cases e;first|rfl|with_unfolding_all rfl|kernel_rfl)
theorem Jub {K:W.Frag}:IsOk ce K (.type "str") VQ:=by
 refine⟨?_,?_,?_,?_,?_,?_,?_,(λ k C b e=>by cases e),(λ k C b e=>by cases e)⟩<;>(intro b e;cases e;first|rfl|with_unfolding_all rfl|kernel_rfl)
theorem Jl0 {K:W.Frag}:IsOk ce K (.type "list") Vf:=by
 refine⟨?_,?_,?_,?_,?_,?_,?_,(λ k C b e=>by cases e),(λ k C b e=>by cases e)⟩<;>(intro b e;cases e;first|rfl|with_unfolding_all rfl|kernel_rfl)
theorem Juc {K:W.Frag}:IsOk ce K (.type "tuple") V5:=by
 refine⟨?_,?_,?_,?_,?_,?_,?_,(λ k C b e=>by cases e),(λ k C b e=>by cases e)⟩<;>(intro b e;cases e;first|rfl|with_unfolding_all rfl|kernel_rfl)
theorem Jua {K:W.Frag}:IsOk ce K (.type "int") VO:=by
 refine⟨?_,?_,?_,?_,?_,?_,?_,(λ k C b e=>by cases e),(λ k C b e=>by cases e)⟩<;>(intro b e;cases e;first|rfl|with_unfolding_all rfl|kernel_rfl)
end
def clOf (cells:List (Str×Zm)):List (Str×Zbd)->List (Str×Zm)->List (Str×Zm)
 | [],acc=>acc
 | (n,k)::r,acc=>clOf cells r (if (k==Za3)=Zg then(match cells.lookup n with|some c=>(n,c)::acc|none=>acc) else acc)
theorem Jik {env:Env}(names:List (Str×Zbd))(acc:List (Str×Zm))(h:∀x∈names,x.2=.free->∃c,env.cells.lookup x.1=Za c) :
  (forIn names acc (λ (x:Str×Zbd)(r:List (Str×Zm))=>if (x.2==Za3)=Zg then(do let c<-cellOf env x.1;pure (ZaN ((x.1,c)::r))) else pure (ZaN r)):Sem (List (Str×Zm)))=pure (clOf env.cells names acc):=by
 induction names generalizing acc with
 | nil=>rfl
 | cons x r ih =>
  obtain⟨n,k⟩:=x
  have ih':=λ a=>ih a λ y hy=>h y (Zp _ hy)
  rw[List.forIn_cons]
  by_cases hk:(k==Za3)=Zg
  ·have hk':k=.free:=by
    cases k<;>first|rfl|exact absurd hk (by decide)
   obtain⟨c,hc⟩:=h (n,k) Z7 hk'
   have e1:cellOf env n=pure c:=by unfold cellOf;rw[hc]
   simp only[hk,if_true,e1,pure_bind]
   rw[ih']
   simp only[clOf,hk,if_true,hc]
  ·simp only[hk,Zaa,if_false,pure_bind]
   rw[ih']
   simp only[clOf,hk,Zaa,if_false]
theorem Jbz {scope:Zbi}{env:Env}(h:∀x∈scope.names,x.2=.free->∃c,env.cells.lookup x.1=Za c):Zdo scope env=pure (clOf env.cells scope.names []):=by
 have e:=Jik (env:=env) scope.names [] h
 have e2:Zdo scope env=((forIn scope.names [] (λ (x:Str×Zbd)(r:List (Str×Zm))=>if (x.2==Za3)=Zg then(do let c<-cellOf env x.1;pure (ZaN ((x.1,c)::r))) else pure (ZaN r)):Sem (List (Str×Zm)))>>=λ s=>pure s):=rfl
 rw[e2,e]
 rfl
theorem Jjt {cells:List (Str×Zm)}:∀(names:List (Str×Zbd))(acc:List (Str×Zm)),(∀x c,acc.lookup x=Za c->cells.lookup x=Za c)->∀x c,(clOf cells names acc).lookup x=Za c->cells.lookup x=Za c
 | [],_,h,x,c,e=>h x c e
 | (n,k)::r,acc,h,x,c,e=>by
  refine Jjt r _ ?_ x c e
  intro y d q
  split at q
  ·cases hc:cells.lookup n with
   | none=>rw[hc] at q;exact h y d q
   | some a =>
    rw[hc] at q
    simp only[Zae] at q
    cases hb:y==n with
    | true =>
     rw[hb] at q
     cases q
     rw[beq_iff_eq.mp hb]
     exact hc
    | false =>
     rw[hb] at q
     exact h y d q
  ·exact h y d q
theorem Jlc:∀(names:List (Str×Zbd))(acc:List (Str×Zm))(x:Str),(acc.lookup x).isSome=Zg->((clOf cells names acc).lookup x).isSome=Zg
 | [],_,_,h=>h
 | (n,k)::r,acc,x,h=>by
  refine Jlc r _ x ?_
  split
  ·cases hc:cells.lookup n with
   | none=>exact h
   | some a =>
    simp only[Zae]
    cases hb:x==n with
    | true=>rfl
    | false=>exact h
  ·exact h
theorem Yk {cells:List (Str×Zm)}:∀(names:List (Str×Zbd))(acc:List (Str×Zm))(x:Str)(c:Zm),(x,Za3)∈names->cells.lookup x=Za c->((clOf cells names acc).lookup x).isSome=Zg
 | [],_,_,_,h,_=>by simp at h
 | (n,k)::r,acc,x,c,h,hc=>by
  rcases Z6.mp h with e|e
  ·obtain⟨rfl,rfl⟩:=Prod.mk.inj e
   refine Jlc r _ _ ?_
   simp[hc]
  ·exact Yk r _ x c e hc
theorem Jbk {env:Env}:∀{names:List (Str×Zbd)}{x:Str}{k:Zbd},
  (names.map λ (n,k)=>if (k==Za3&&env.scope.kind==.function&&env.kindOf n==Za .cell) then(n,Zdy) else(n,k)).lookup x=Za k ->
  ∃k0,names.lookup x=Za k0/\(k,k0)∈([(k0,k0),(.cell,.free)]:List (Zbd×Zbd))
 | [],_,_,h=>by simp at h
 | (n,k1)::r,x,k,h=>by
  have ih:=@Jbk env r x k
  have h':Zb2 x ((if (k1==Za3&&env.scope.kind==.function&&env.kindOf n==Za .cell)=Zg then(n,Zdy) else(n,k1))::_)=Za k:=h
  cases hx:x==n with
  | true =>
   refine⟨k1,by simp[Zae,hx],?_⟩
   by_cases hc:(k1==Za3&&env.scope.kind==.function&&env.kindOf n==Za .cell)=Zg
   ·rw[if_pos hc] at h'
    simp only[Zae,hx] at h'
    cases h'
    simp only[Zq,beq_iff_eq] at hc
    rw[hc.1.1]
    simp
   ·rw[if_neg hc] at h'
    simp only[Zae,hx] at h'
    cases h'
    simp
  | false =>
   have h2:Zb2 x (r.map λ (n,k)=>if (k==Za3&&env.scope.kind==.function&&env.kindOf n==Za .cell) then(n,Zdy) else(n,k))=Za k:=by
    by_cases hc:(k1==Za3&&env.scope.kind==.function&&env.kindOf n==Za .cell)=Zg
    ·rw[if_pos hc] at h';simpa only[Zae,hx] using h'
    ·rw[if_neg hc] at h';simpa only[Zae,hx] using h'
   obtain⟨k0,e,m⟩:=ih h2
   exact⟨k0,by simp only[Zae,hx];exact e,m⟩
theorem Jgg {env:Env}:∀{names:List (Str×Zbd)}{x:Str},names.lookup x=Za .free ->
  ∃k,(names.map λ (n,k)=>if (k==Za3&&env.scope.kind==.function&&env.kindOf n==Za .cell) then(n,Zdy) else(n,k)).lookup x=Za k/\(k=.cell∨k=.free)
 | [],_,h=>by simp at h
 | (n,k1)::r,x,h=>by
  have ih:=@Jgg env r x
  cases hx:x==n with
  | true =>
   simp only[Zae,hx] at h
   cases h
   by_cases hc:(Za3==Za3&&env.scope.kind==.function&&env.kindOf n==Za .cell)=Zg
   ·exact⟨.cell,by rw[Z4];dsimp only;rw[if_pos hc];simp only[Zae,hx],.inl rfl⟩
   ·exact⟨.free,by rw[Z4];dsimp only;rw[if_neg hc];simp only[Zae,hx],.inr rfl⟩
  | false =>
   simp only[Zae,hx] at h
   obtain⟨k,e,q⟩:=ih h
   refine⟨k,?_,q⟩
   rw[Z4]
   dsimp only
   by_cases hc:(k1==Za3&&env.scope.kind==.function&&env.kindOf n==Za .cell)=Zg
   ·rw[if_pos hc];simp only[Zae,hx];exact e
   ·rw[if_neg hc];simp only[Zae,hx];exact e
def cxC (X:Cx)(N':List Str)(scope:Zbi)(C:Zm)(s:Zl)(H:Hp)(fp:List Zm):Cx :=
 { X with N:=N',s₀:=s,H₀:=H,env:=compEnvC scope (clOf X.env.cells scope.names []) C X.env,outer:=X.stack,ex:=fp,fn:=λ _=>Zj,pn:=[] }
def QA (N0 loc caps:List Str)(js:List Nat)(sc₀ scope:Zbi):Bool :=
 decide (scope.kind=.function)&&decide (sc₀.kind=.function)&&scope.names.all (λ x=>!(x.2==.cell))&&scope.names.all (λ x=>!(x.2==.local)||decide (scope.names.lookup x.1=Za .local)) &&
 scope.names.all (λ x=>!(x.2==.free)||decide (sc₀.names.lookup x.1=Za .cell)||decide (sc₀.names.lookup x.1=Za .free)) &&
 scope.names.all (λ x=>!(decide (scope.names.lookup x.1=Za .free))||(x.2==.free)) &&
 (js.zip caps).all (λ p=>decide (N0[p.1]?=Za p.2)&&decide (scope.names.lookup p.2=Za .free))&&decide (js.length=caps.length)&&decide (loc++caps).Nodup &&
 loc.all (λ n=>decide (scope.names.lookup n=Za .local))
open Classical in
def JQ (chk:IH->Prop)(g:G1)(t:T1)(e:E1)(i0:Nat):List IV->ISt->IH->Res IV
 | [],_,h=>if chk h then .ok (.ref i0) h else .stuck
 | x::xs,σ,h=>if chk h then(match g x σ h with
   | .next σ1 h1=>(match t σ1 h1 with
    | .ok Zg h2=>(match e σ1 h2 with
     | .ok v h3=>(match h3[i0]? with
      | some (.lst acc)=>if acc.length<sizeLine then JQ chk g t e i0 xs σ1 (h3.set i0 (.lst (acc++[v]))) else .stuck
      | _=>.stuck)
     | _=>.stuck)
    | .ok Zj h2=>JQ chk g t e i0 xs σ1 h2
    | _=>.stuck)
   | _=>.stuck) else .stuck
def stC (nloc:Nat)(js:List Nat)(σ:ISt):ISt:=ZS nloc Zc++js.map λ j=>(σ[j]?).join
def J0 (it:I1)(nloc:Nat)(js:List Nat)(g:G1)(t:T1)(e:E1):E1:=λ σ h=>(it σ h).bind λ J h1=>JQ J.chk g t e h1.length J.xs (stC nloc js σ) (h1++[.lst []])
theorem Jle {prog:ZA}{w:ZW}{A:ZO}{R:ZdG->Zl->Prop}{s:Zl}{elt target iter:Expr}{ifs:List Expr}{scope:Zbi}{pos:Pos}{it acc:Ze}{env:Env}(I:Nat->Zl->Prop) 
  (turn:∀n s,I n s->Zx (Z8 prog w) A (ZbU it) (λ r s₁=>match r with
   | none=>R (.ok .next) s₁
   | some v=>Zx (Z8 prog w) A (Zcm target it v) (λ _ s₁'=>Zx (Z8 prog w) A (ZdJ target env v) (λ _ s₂ =>
     Zx (Z8 prog w) A (forIn ifs Zg λ c r=>if r=Zg then do let ok<-isTrue c env (Zbe c env);pure (ZaN ok) else pure (ZaN r)) (λ ok s₃ =>
      if ok=Zg then Zx (Z8 prog w) A (Zbe elt env) (λ x s₄ =>
       Zx (Z8 prog w) A (call (.builtin "list.append") [acc,x]) (λ _ s₅=>∃m,m<n/\I m s₅) (λ _ _=>False) s₄) (λ _ _=>False) s₃
      else ∃m,m<n/\I m s₃) (λ _ _=>False) s₂) (λ _ _=>False) s₁') (λ _ _=>False) s₁) (λ _ _=>False) s)
  (n:Nat) (h:I n s):Zc4 (Z8 prog w) A (.compLoop (.ListComp elt [⟨target,iter,ifs,0⟩] scope pos) 0 it acc env) R s:=by
 refine codeAny_loop rfl I (λ n s hI=>?_) n h
 show Zx _ A ((compTurn (.ListComp elt [⟨target,iter,ifs,0⟩] scope pos) 0 it acc env).onRaise (λ x=>do Zd6 x env;theTreesLotGoes x)) _ _ s
 refine wpAny_noted (nof ?_)
 rw[compTurn_list]
 refine Zd (Zb9 (Zd (Zam (turn n s hI) (λ r s₁ h₁=>?_) λ _ _ h'=>h')))
 cases r with
 | none=>exact Z0 h₁
 | some v =>
  refine Zd (Zam h₁ (λ _ s₁' h₁'=>?_) λ _ _ h'=>h')
  refine Zd (Zam h₁' (λ _ s₂ h₂=>Zd (Zam h₂ (λ ok s₃ h₃=>?_) λ _ _ h'=>h')) λ _ _ h'=>h')
  cases ok with
  | false=>exact Z0 ⟨rfl,h₃⟩
  | true =>
   exact Zd (Zd (Zam h₃ (λ x s₄ h₄=>Zd (Zam h₄ (λ _ s₅ h₅=>Z0 (Z0 ⟨rfl,h₅⟩)) λ _ _ h'=>h')) λ _ _ h'=>h'))
def PTsi (ce:CeT)(X:Cx)(ifs:List Expr)(m:T1):Prop:=PX ce X RB (forIn ifs Zg λ c r=>if r=Zg then do let ok<-isTrue c X.env (Zbe c X.env);pure (ZaN ok) else pure (ZaN r)) m
noncomputable def JF:T1:=λ _ h=>.ok Zg h
theorem Jw0:PTsi ce X [] JF:=λ _ s _ H ι _ _ _ _ N K=>wpAny_tests_nil (K Zg s H ι N .refl rfl)
theorem Jw1 {ce:CeT}{X:Cx}{c:Expr}{m:T1}(hc:PTi ce X c m):PTsi ce X [c] m:=λ pj s σ H ι σi h Q E N K=>wpAny_tests_one (hc pj s σ H ι σi h Q E N K)
def V2 (ce:CeT)(X:Cx)(use:Option (Ze->Sem Unit))(pj:PnT)(ι:List Zm)(σi:ISt)(σ:L2.St)(H:Hp)(r:Res IV)(Q:QvT)(E:QvT):Prop :=
 match r with
 | .ok v h'=>∀D C m s' H' ι',Now ce X pj ι' σi h' σ H' s'->Nxt ι H ι' H'->RU X.K ι' H' v (.ref D)->s'.heap.Ns C m->FpOk X pj H' C->compPost (Z8 X.prog X.w) X.A E use Q (.ref D) C (.ok .next) s'
 | .exc n h'=>∀pl a s' H' ι',Now ce X (pj++pl) ι' σi h' σ H' s'->Nxt ι H ι' H'->ι'[n]?=Za a->E (.ref a) s'
 | .stuck=>False
theorem V2.mono (k:V2 ce X use pj ι σi σ H r Q E)(n:Nxt ι H ι' H'):V2 ce X use pj ι' σi σ H' r Q E:=by
 cases r with
 | ok v h'=>exact λ D C m s' H2 ι2 N n2 q=>k D C m s' H2 ι2 N (n.trans n2) q
 | exc m h'=>exact λ pl a s' H2 ι2 N n2 q=>k pl a s' H2 ι2 N (n.trans n2) q
 | stuck=>exact k
structure TurnC (P:ZA)(w:ZW)(C:Cx->Hp->Prop)(tg:Expr)(J:It)(fp:List Zm)(it:Zm)(tn:Nat->Zas->Prop):Prop where
 obj:∀i h,tn i h->∀b∈fp,∃o,h.get? b=Za o/\∀v,o.data≠.cell v
 keep:∀i h h',tn i h->(∀b∈fp,∀o,h.get? b=Za o->h'.get? b=Za o)->tn i h'
 item:∀(X:Cx)(i:Nat)(s:Zl)(σ:L2.St)(H:Hp),C X H->Inv X [] σ H s->(∀b∈fp,FpOk X [] H b)->tn i s.heap->J.go i H ->
  Zx (Z8 P w) X.A (ZbU (.ref it)) (λ r s1=>∃u,r=Za u/\Zx (Z8 P w) X.A (Zcm tg (.ref it) u) (λ _ s2=>∃x H',Inv X [] σ H' s2/\RelV x u/\J.yld i H x H'/\tn (i+1) s2.heap/\∀b∈fp,H' b=Zc) (λ _ _=>False) s1) (λ _ _=>False) s
 done:∀(X:Cx)(i:Nat)(s:Zl)(σ:L2.St)(H:Hp),C X H->Inv X [] σ H s->(∀b∈fp,FpOk X [] H b)->tn i s.heap->J.stop i H->Zx (Z8 P w) X.A (ZbU (.ref it)) (λ r s1=>r=Zc/\Inv X [] σ H s1) (λ _ _=>False) s
 self:∀(A:ZO)(i:Nat)(s:Zl)(Q:QvT)(E:QvT),tn i s.heap->Q (.ref it) s->Zx (Z8 P w) A (Zen (.ref it)) Q E s
def J2n (X0:Cx)(X:Cx)(_:Hp):Prop:=X.prog=X0.prog/\X.w=X0.w/\X.K=X0.K/\X.calm=Zg
def RItC (C:Cx->Hp->Prop)(ce:CeT)(X:Cx)(tg:Expr)(pj:PnT)(ι':List Zm)(I:ItI)(itv:Ze)(s2:Zl)(H':Hp):Prop :=
 ∃(it:Zm)(fp:List Zm)(tn:Nat->Zas->Prop)(J:It),itv=.ref it/\TurnC X.prog X.w C tg J fp it tn/\tn 0 s2.heap/\(∀b∈fp,FpOk X pj H' b)/\ItOk ce X.K ι' H' J I
def PIc (C:Cx->Hp->Prop)(ce:CeT)(X:Cx)(tg iter:Expr)(m:I1):Prop :=
 ∀(pj:PnT)(s:Zl)(σ:L2.St)(H:Hp)(ι:List Zm)(σi:ISt)(h:IH)(Q:QvT)(E:QvT),Now ce X pj ι σi h σ H s ->
  (match m σi h with
   | .ok I h'=>∀itv s' H' ι',Now ce X pj ι' σi h' σ H' s'->Nxt ι H ι' H'->RItC C ce X tg pj ι' I itv s' H'->Q itv s'
   | .exc n h'=>∀pl a s' H' ι',Now ce X (pj++pl) ι' σi h' σ H' s'->Nxt ι H ι' H'->ι'[n]?=Za a->E (.ref a) s'
   | .stuck=>False) ->
  Zx (Z8 X.prog X.w) X.A (Zbe iter X.env) (λ v s1=>Zx (Z8 X.prog X.w) X.A (Zen v) Q E s1) E s
theorem PIi.c (p:PIi ce X tg iter m):PIc (J2n X) ce X tg iter m:=λ pj s σ H ι σi h Q E N k=>p pj s σ H ι σi h Q E N (by
 cases e:m σi h with
 | exc n h'=>rw[e] at k;exact k
 | stuck=>rw[e] at k;exact k
 | ok I h' =>
  rw[e] at k
  intro itv s' H' ι' N' n' ⟨it,fp,tn,J,e1,T,r⟩
  refine k itv s' H' ι' N' n' ⟨it,fp,tn,J,e1,⟨T.obj,T.keep,λ X' i s σ H c=>?_,λ X' i s σ H c=>?_,T.self⟩,r⟩
  ·exact T.item X' c.1 c.2.1 c.2.2.1 c.2.2.2 i [] s σ H _
  ·exact T.done X' c.1 c.2.1 c.2.2.1 c.2.2.2 i [] s σ H _)
section
variable {ce:CeT}{X:Cx}
theorem Jlf {N0 loc caps:List Str}{js:List Nat}{sc₀ scope:Zbi}{tg iter elt:Expr}{ifs:List Expr}{g:G1}{mt:T1}{me:E1}{pos ppos:Pos}{use:Option (Ze->Sem Unit)}(hi:PIc Cc ce X tg iter mi) 
  (hg:∀C s H fp,PGi ce (cxC X (loc++caps) scope C s H fp) tg g)(ht:∀C s H fp,PTsi ce (cxC X (loc++caps) scope C s H fp) ifs mt)(he:∀C s H fp,PEi ce (cxC X (loc++caps) scope C s H fp) elt me)
  (ok:QA N0 loc caps js sc₀ scope=Zg)(hN0:X.N=N0:=by rfl)(hsc:X.env.scope=sc₀:=by rfl)(hs:∀x,ZbS iter X.env x=pure x:=by intro _;rfl)
  {pj:PnT}{s:Zl}{σ:L2.St}{H:Hp}{ι:List Zm}{σi:ISt}{h:IH}{Q:QvT}{E:QvT}(hcc:∀C s H1 fp H',Ext H H'->Cc (cxC X (loc++caps) scope C s H1 fp) H')(N:Now ce X pj ι σi h σ H s)(K:V2 ce X use pj ι σi σ H (J0 mi loc.length js g mt me σi h) Q E) :
  Zx (Z8 X.prog X.w) X.A (comprehension (.ListComp elt [⟨tg,iter,ifs,0⟩] scope pos) scope X.env ppos (newList []) Zj (Zbe iter X.env) use) Q E s:=by
 simp only[QA,Zq,decide_eq_true_eq,Zbf,ZaH,Za1,beq_iff_eq,beq_eq_false_iff_ne] at ok
 obtain⟨⟨⟨⟨⟨⟨⟨⟨⟨kF,kF0⟩,kNC⟩,kL⟩,kFr⟩,kFx⟩,kJ⟩,kLen⟩,kNd⟩,kLo⟩:=ok
 have hfree:∀x∈scope.names,x.2=.free->X.env.kindOf x.1=Za .cell∨X.env.kindOf x.1=Za .free:=λ x hx hk=>by
  have e:X.env.kindOf x.1=sc₀.names.lookup x.1:=by rw[<- hsc];rfl
  rw[e]
  rcases kFr x hx with(z|z)|z
  ·exact absurd hk z
  ·exact .inl z
  ·exact .inr z
 have hclos:Zdo scope X.env=pure (clOf X.env.cells scope.names []):=Jbz λ x hx hk=>N.inv.ok.has x.1 (hfree x hx hk)
 refine wpAny_comprehension_free (use:=use) (e:=.ListComp elt [⟨tg,iter,ifs,0⟩] scope pos) rfl hs hclos kF (λ x hx hl=>(kL x hx).resolve_left λ z=>z hl) ?_
 refine hi pj s σ H ι σi h _ E N ?_
 unfold J0 at K
 cases e0:mi σi h with
 | exc n h'=>rw[e0] at K;exact K
 | stuck=>rw[e0] at K;exact K
 | ok Jt h1 =>
  rw[e0] at K
  intro itv s1 H1 ι1 N1 n1 RI
  obtain⟨it,fp,tn,J,e,T,st1,f1,OK⟩:=RI
  subst e
  -- the list
  refine wpAny_newObj_type ?_
  have fresh1:H1 s1.heap.objs.size=Zc:=N1.inv.hok.fresh (Zo _)
  have I2:Inv X pj σ (upd H1 s1.heap.objs.size (.lst [])) { s1 with heap:=s1.heap.push { cls:=.type "list",dict:=Zc,data:=.seq ([]:List Ze).toArray } } :=
   N1.inv.laid (t':=s1.toks) (λ b u e=>Zh _ e) (Zo _) ⟨ZX _,[],0,.nil,Z2 _ rfl⟩
  obtain⟨R2,n2⟩:=N1.rel.alloc (o:=.lst []) (io:=.lst []) fresh1 ⟨[],J7,rfl⟩
  generalize hs2:({ s1 with heap:=s1.heap.push { cls:=.type "list",dict:=Zc,data:=.seq ([]:List Ze).toArray } }:Zl)=s2 at I2 ⊢
  generalize hD:s1.heap.objs.size=D at *
  generalize hH2:upd H1 D (.lst [])=H2 at *
  have N2:Now ce X pj (ι1++[D]) σi (h1++[.lst []]) σ H2 s2:=⟨I2,R2,N1.st.mono n2⟩
  have keep12:∀b o,s1.heap.get? b=Za o->s2.heap.get? b=Za o:=λ b o q=>by rw[<- hs2];exact Zh _ q
  have st2:tn 0 s2.heap:=T.keep 0 _ _ st1 λ b _ o q=>keep12 b o q
  have hat:(ι1++[D])[h1.length]?=Za D:=by
   rw[<- N1.rel.len,Z9 (Zo _)]
   simp
  have f2:∀b∈fp,FpOk X pj H2 b:=λ b hb=>by
   refine⟨?_,(f1 b hb).2⟩
   obtain⟨o,ho,_⟩:=T.obj 0 _ st1 b hb
   have:b≠D:=Z5 (by rw[<- hD];exact Z1 ho)
   rw[<- hH2,Jr this]
   exact(f1 b hb).1
  -- the block's own dict
  refine wpAny_newFunctionEnv (λ x hx=>kNC x hx) (by intro y hy;simp at hy) (λ h3 hns3 hsb3=>?_) kF
  generalize hC:s2.heap.objs.size=C at *
  have keep23:∀b o,s2.heap.get? b=Za o->h3.get? b=Za o:=λ b o q=>(hsb3.2 b (Z5 (by rw[<- hC];exact Z1 q))).trans (Zh _ q)
  have cells':∀x c,(clOf X.env.cells scope.names []).lookup x=Za c->X.env.cells.lookup x=Za c:=Jjt _ _ (λ x c q=>by simp at q)
  -- the context of the block
  have okX:(cxC X (loc++caps) scope C s2 H2 fp).Ok:=by
   refine⟨N.inv.ok.mod,kF,N.inv.ok.glob,N.inv.ok.blt,Zc6 hC,λ x y c a b=>N.inv.ok.inj x y c (cells' x c a) (cells' y c b),λ x hx=>?_,λ x c z=>?_,N.inv.ok.hd,N.inv.ok.frames,.inl rfl,λ b hb=>?_,λ b o q=>I2.bs b o q,
    ZY N.inv.ok.bsz I2.sz,λ b o q hb=>?_,λ b hb z=>?_,I2.stack,I2.stkFree⟩
   ·have hx':(relabel scope X.env).names.lookup x=Za .cell∨(relabel scope X.env).names.lookup x=Za .free:=hx
    have hfr:scope.names.lookup x=Za .free:=by
     rcases hx' with z|z
     ·obtain⟨k0,e,m⟩:=Jbk z
      simp only[Z6,Prod.mk.injEq,ZT,or_false] at m
      rcases m with⟨m1,_⟩|⟨_,m2⟩
      ·exact absurd (kNC _ (Zaf e)) (by rw[<- m1];intro q;exact q rfl)
      ·rw[m2] at e;exact e
     ·obtain⟨k0,e,m⟩:=Jbk z
      simp only[Z6,Prod.mk.injEq,ZT,or_false] at m
      rcases m with⟨m1,_⟩|⟨m1,_⟩
      ·rw[<- m1] at e;exact e
      ·cases m1
    have hm:=Zaf hfr
    obtain⟨c,hc'⟩:=N.inv.ok.has x (hfree (x,.free) hm rfl)
    exact Zbh.mp (Yk _ _ x c hm hc')
   ·exact absurd (show Zj=Zg from z) Zs
   ·have hbD:=f2 b hb
    obtain⟨o,ho,_⟩:=T.obj 0 _ st2 b hb
    exact⟨Z5 (by show b<C;rw[<- hC];exact Z1 ho),λ x c q=>hbD.2.2.2.2.1 x c (cells' x c q)⟩
   ·rcases(f2 b hb).2.2.2.1 with z|z
    ·exact N.inv.ok.noex b o q z
    ·exact Zcg _ (ZK (Z1 q) (ZY N.inv.ok.bsz z))
   ·rcases Z6.mp (I2.stkSub b z) with e|e
    ·exact(f2 b hb).2.1 e
    ·exact(f2 b hb).2.2.1 e
  -- the block's state
  have lenJ:js.length=caps.length:=kLen
  have stl:(stC loc.length js σi).length=(loc++caps).length:=by simp[stC,lenJ]
  have R3:Rel ce X.K (ι1++[D]) (h1++[.lst []]) H2:=R2
  have I3:Inv (cxC X (loc++caps) scope C s2 H2 fp) [] (ZS loc.length Zc++js.map λ j=>(σ[j]?).join) H2 { s2 with heap:=h3,toks:=s2.toks+([]:List (Str×Ze)).length }:=by
   refine⟨okX,rfl,I2.bare,Un.kept keep23,⟨_,hns3,λ i x v a b c=>?_⟩,λ x c q=>?_,I2.hok.fresh (Zc6 hC),λ x c q=>I2.freeC x c (cells' x c q),λ p hp=>absurd (show p∈([]:PnT) from hp) (by simp),I2.hok.kept keep23,by show _=(loc++caps).length;simp[lenJ]⟩
   ·have hi:loc.length<=i:=by
     refine ZcL λ hlt=>?_
     rw[ZE (by simpa using hlt),ZbD] at b
     split at b<;>cases b
    obtain⟨k,rfl⟩:∃k,i=loc.length+k:=⟨i-loc.length,by omega⟩
    have a':(loc++caps)[loc.length+k]?=Za x:=a
    rw[Z9 (by omega)] at a'
    rw[Z9 (by simp)] at b
    simp only[Nat.add_sub_cancel_left,Zbz,Zv] at a' b
    cases ej:js[k]? with
    | none=>rw[ej] at b;cases b
    | some j =>
     rw[ej] at b
     have b':(σ[j]?).join=Za v:=Zaj b
     have hσ:σ[j]?=Za (Za v):=by
      cases es:σ[j]? with
      | none=>rw[es] at b';cases b'
      | some o=>rw[es] at b';rw[show o=Za v from b']
     have hz:=kJ (j,x) (List.mem_iff_getElem?.mpr ⟨k,by rw[List.getElem?_zip_eq_some];exact⟨ej,a'⟩⟩)
     obtain⟨hx1,hx2⟩:=hz
     obtain⟨m,hn,hl⟩:=I2.loc
     have hk:=hfree (x,.free) (Zaf hx2) rfl
     obtain⟨u,ru,lk⟩:=hl j x v (by rw[hN0];exact hx1) hσ (by rcases hk with q|q;exact .inr (.inl q);exact .inr (.inr q))
     rcases lk with⟨q,_⟩|⟨q,c,hc',hcell⟩
     ·rcases hk with q'|q'<;>(rw[q'] at q;cases q)
     ·obtain⟨kk,ek,hkk⟩:=Jgg (env:=X.env) hx2
      have hcl:=Yk (cells:=X.env.cells) scope.names [] x c (Zaf hx2) hc'
      obtain⟨c',hc2⟩:=Zbh.mp hcl
      have:=cells' x c' hc2
      rw[hc'] at this
      cases this
      obtain⟨oc,hoc,hd⟩:=hcell
      refine⟨u,ru,.inr ⟨?_,c,hc2,oc,keep23 _ _ hoc,hd⟩⟩
      rcases hkk with rfl|rfl
      ·exact .inl ek
      ·exact .inr ek
   ·obtain⟨v,o,ho,hd⟩:=I2.cell x c (cells' x c q)
    exact⟨v,o,keep23 _ _ ho,hd⟩
  have N3:Now ce (cxC X (loc++caps) scope C s2 H2 fp) [] (ι1++[D]) (stC loc.length js σi) (h1++[.lst []]) (ZS loc.length Zc++js.map λ j=>(σ[j]?).join) H2 { s2 with heap:=h3,toks:=s2.toks+([]:List (Str×Ze)).length }:=by
   refine⟨I3,R3,by simp[stC],λ i v q=>?_⟩
   unfold stC at q
   have hi:loc.length<=i:=by
    refine ZcL λ hlt=>?_
    rw[ZE (by simpa using hlt),ZbD] at q
    split at q<;>cases q
   rw[Z9 (by simpa using hi)] at q
   simp only[Zbz,Zv] at q
   cases ej:js[i-loc.length]? with
   | none=>rw[ej] at q;cases q
   | some j =>
    rw[ej] at q
    have q':(σi[j]?).join=Za v:=Zaj q
    have hσ:σi[j]?=Za (Za v):=by
     cases es:σi[j]? with
     | none=>rw[es] at q';cases q'
     | some o=>rw[es] at q';rw[show o=Za v from q']
    obtain⟨u,hu,qu⟩:=N2.st.at_ j v hσ
    refine⟨u,?_,qu⟩
    rw[Z9 (by simpa using hi)]
    simp only[Zbz,Zv,ej,ZcX,hu]
    rfl
  have st3:tn 0 h3:=T.keep 0 _ _ st2 λ b _ o q=>keep23 b o q
  have K2:V2 ce X use pj (ι1++[D]) σi σ H2 (JQ Jt.chk g mt me h1.length Jt.xs (stC loc.length js σi) (h1++[.lst []])) Q E:=V2.mono (r:=JQ Jt.chk g mt me h1.length Jt.xs (stC loc.length js σi) (h1++[.lst []])) K (n1.trans n2)
  have loop:Zc4 (Z8 X.prog X.w) X.A (.compLoop (.ListComp elt [⟨tg,iter,ifs,0⟩] scope pos) 0 (.ref it) (.ref D) (compEnvC scope (clOf X.env.cells scope.names []) C X.env)) (compPost (Z8 X.prog X.w) X.A E use Q (.ref D) C)
    { s2 with heap:=h3,toks:=s2.toks+([]:List (Str×Ze)).length }:=by
   refine Jle (λ n s'=>∃k ιk σk hk σ' H',Now ce (cxC X (loc++caps) scope C s2 H2 fp) [] ιk σk hk σ' H' s'/\Nxt (ι1++[D]) H2 ιk H'/\tn k s'.heap/\(∀b∈fp,H' b=Zc)/\n=Jt.xs.length-k/\k<=Jt.xs.length/\V2 ce X use pj ιk σi σ H' (JQ Jt.chk g mt me h1.length (Jt.xs.drop k) σk hk) Q E) ?_ Jt.xs.length
    ⟨0,ι1++[D],stC loc.length js σi,h1++[.lst []],_,H2,N3,.refl,st3,λ b hb=>(f2 b hb).1,by simp,ZX _,by simpa using K2⟩
   have stat:∀{H':Hp},(∀b∈fp,H' b=Zc)->∀b∈fp,FpOk (cxC X (loc++caps) scope C s2 H2 fp) [] H' b:=λ hn b hb =>
    ⟨hn b hb,(okX.exf b hb).1,okX.exfs b hb,.inl hb,(okX.exf b hb).2,λ p hp=>absurd (show p∈([]:PnT) from hp) (by simp)⟩
   rintro n s4 ⟨k,ιk,σk,hk,σ4,H4,N4,n4,st4,fr4,rfl,hkl,K4⟩
   by_cases hlt:k<Jt.xs.length
   ·have hd:Jt.xs.drop k=Jt.xs[k]::Jt.xs.drop (k+1):=Zbc hlt
    rw[hd] at K4
    unfold JQ at K4
    split at K4
    ·rename_i hck
     obtain⟨go,yl⟩:=OK.go k Jt.xs[k] hk H4 ιk (n2.trans n4) N4.rel hck (Zb hlt)
     refine thn (T.item (cxC X (loc++caps) scope C s2 H2 fp) k s4 σ4 H4 (hcc _ _ _ _ _ (n1.trans (n2.trans n4)).ext) N4.inv (stat fr4) st4 go) λ r s5 ⟨u,hr,h5⟩=>?_
     subst hr
     refine thn h5 λ _ s6 ⟨x,H6,I6,r6,y6,st6,fr6⟩=>?_
     obtain⟨R6,n6,q6⟩:=yl x H6 y6
     have I6':=I6.pinned (stat fr6) (T.obj _ _ st6)
     have N6:Now ce (cxC X (loc++caps) scope C s2 H2 fp) ([]++QJ fp s6.heap) ιk σk hk σ4 H6 s6:=⟨I6',R6,N4.st.mono n6⟩
     have again:∀{σ7:L2.St}{H7:Hp}{s7:Zl}{σ7i:ISt}{h7:IH}{ι7:List Zm},Now ce (cxC X (loc++caps) scope C s2 H2 fp) ([]++QJ fp s6.heap) ι7 σ7i h7 σ7 H7 s7->Nxt ιk H6 ι7 H7->V2 ce X use pj ιk σi σ H4 (JQ Jt.chk g mt me h1.length (Jt.xs.drop (k+1)) σ7i h7) Q E ->
       ∃m,m<Jt.xs.length-k/\∃k ιk σk hk σ' H',Now ce (cxC X (loc++caps) scope C s2 H2 fp) [] ιk σk hk σ' H' s7/\Nxt (ι1++[D]) H2 ιk H'/\tn k s7.heap/\(∀b∈fp,H' b=Zc)/\m=Jt.xs.length-k/\k<=Jt.xs.length/\V2 ce X use pj ιk σi σ H' (JQ Jt.chk g mt me h1.length (Jt.xs.drop k) σk hk) Q E :=
      λ {σ7 H7 s7 σ7i h7 ι7} N7 n7 K7=>by
       have nn:Nxt ιk H4 ι7 H7:=n6.trans n7
       refine⟨Jt.xs.length-(k+1),by omega,k+1,ι7,σ7i,h7,σ7,H7,N7.pins,n4.trans nn,T.keep _ _ _ st6 λ b hb o e=>(N7.inv.pin (b,o) (Zn _ (Zn _ (Yx hb e)))).1,λ b hb=>?_,rfl,hlt,K7.mono nn⟩
       obtain⟨o,e,d⟩:=T.obj _ _ st6 b hb
       exact(N7.inv.pin (b,o) (Zn _ (Zn _ (Yx hb e)))).2.1
     cases eg:g Jt.xs[k] σk hk with
     | next σg hgg =>
      rw[eg] at K4
      dsimp only at K4
      refine hg C s2 H2 fp _ s6 σ4 H6 ιk σk hk _ u (λ _ s7=>Zx (Z8 X.prog X.w) X.A (forIn ifs Zg λ c r=>if r=Zg then do let ok<-isTrue c _ (Zbe c _);pure (ZaN ok) else pure (ZaN r)) _ _ s7) (λ _ _=>False) N6 ⟨x,r6,q6⟩ ?_
      rw[eg]
      intro s7 σ7 H7 ι7 N7 n7
      refine ht C s2 H2 fp _ s7 σ7 H7 ι7 σg hgg _ (λ _ _=>False) N7 ?_
      cases et:mt σg hgg with
      | ok c h8 =>
       rw[et] at K4
       intro d s8 H8 ι8 N8 n8 rd
       have rd':d=c:=rd
       subst rd'
       cases d with
       | false=>exact again N8 (n7.trans n8) K4
       | true =>
        dsimp only at K4
        refine he C s2 H2 fp _ s8 σ7 H8 ι8 σg h8 _ (λ _ _=>False) N8 ?_
        cases ee:me σg h8 with
        | ok v h9 =>
         rw[ee] at K4
         dsimp only at K4
         intro w s9 H9 ι9 N9 n9 rw9
         have hat9:ι9[h1.length]?=Za D:=(((n4.trans n6).trans n7).trans (n8.trans n9)).at hat
         cases hl:h9[h1.length]? with
         | none=>rw[hl] at K4;exact Zf K4
         | some ob =>
          rw[hl] at K4
          cases ob with
          | lst acc =>
           dsimp only at K4
           split at K4
           ·rename_i hz
            obtain⟨vs,eD,rD⟩:=N9.at hl hat9
            obtain⟨wv,rw9,qw⟩:=rw9
            have ap:=Jl4 (X:=(cxC X (loc++caps) scope C s2 H2 fp).wish λ _ _=>False) ([]++QJ fp s6.heap) s9 σ7 H9 (.ref D) [wv] (.ref D) [w] (λ _ H'=>H'=upd H9 D (.lst (vs++[wv]))) (N9.inv.wish _) rfl (.cons rw9 .nil) ⟨D,vs,wv,rfl,rfl,eD,by rw[rD.length];exact hz,rfl⟩
            refine Zam ap (λ _ s10 hq=>?_) λ _ _ z=>z
            obtain⟨z,H10,I10,_,rfl⟩:=hq
            have n10:Nxt ι9 H9 ι9 (upd H9 D (.lst (vs++[wv]))):=⟨⟨[],by simp⟩,Ext.upd_mut eD (by rw[eD];exact Zaq)⟩
            obtain⟨R10,_⟩:=N9.rel.write (o:=.lst (vs++[wv])) (io:=.lst (acc++[v])) hat9 eD (by rw[eD];exact Zaq) ⟨_,J7,(RVs.mono n10 _ _ rD).append (RVs.one (RV.mono n10 _ _ qw))⟩
            exact again ⟨I10.unwish,R10,N9.st.mono n10⟩ (((n7.trans n8).trans n9).trans n10) K4
           ·exact Zf K4
          | _=>exact Zf K4
        | _=>rw[ee] at K4;exact Zf K4
      | _=>rw[et] at K4;exact Zf K4
     | _=>rw[eg] at K4;exact Zf K4
    ·exact Zf K4
   ·have hke:Jt.xs.drop k=[]:=ZcA (by omega)
    rw[hke] at K4
    unfold JQ at K4
    split at K4
    ·rename_i hck
     have stop:=OK.stop k hk H4 ιk (n2.trans n4) N4.rel hck (by omega)
     refine thn (T.done (cxC X (loc++caps) scope C s2 H2 fp) k s4 σ4 H4 (hcc _ _ _ _ _ (n1.trans (n2.trans n4)).ext) N4.inv (stat fr4) st4 stop) λ r s5 ⟨hr,I5⟩=>?_
     subst hr
     obtain⟨m,hnm,_⟩:=I5.loc
     -- back to the def's own frame
     have hos:s5.os=s2.os:=I5.os
     obtain⟨hp5,g5,d5,t5,os5⟩:=s5
     obtain rfl:os5=s2.os:=hos
     have J5:Inv X pj σ H4 { s2 with heap:=hp5,gens:=g5,drawn:=d5,toks:=t5 }:=I2.call (ch:=fp) I5.base I5.hok I5.bare λ b hb=>⟨(f2 b hb).2.2.2.1,(f2 b hb).2.1,(f2 b hb).2.2.2.2.1,(f2 b hb).2.2.2.2.2⟩
     have fC:FpOk X pj H4 C:=I2.fpOk (Zc6 hC) I5.free
     exact K4 D C m _ H4 ιk ⟨J5,N4.rel,(N2.st.mono n4)⟩ .refl ⟨.ref D,rfl,D,rfl,n4.at hat⟩ hnm fC
    ·exact Zf K4
  exact codeAny_compStart_list loop (T.self X.A 0 _ _ _ st3 loop)
theorem Now.letgo {pj:PnT}{ι:List Zm}{σi:ISt}{h:IH}{σ:L2.St}{H:Hp}{s:Zl}{C:Zm}{h':Zas}(N:Now ce X pj ι σi h σ H s)(fC:FpOk X pj H C)(sb:Zc3 C s.heap h'):Now ce X pj ι σi h σ H { s with heap:=h' } :=
 ⟨N.inv.turned (it:=C) (t':=s.toks) (λ b o hb q=>(sb.2 b hb).trans q) fC.1 fC.2.1 fC.2.2.2.1 fC.2.2.2.2.1 fC.2.2.2.2.2,N.rel,N.st⟩
theorem Jwd {N0 loc caps:List Str}{js:List Nat}{sc₀ scope:Zbi}{tg iter elt:Expr}{ifs:List Expr}{g:G1}{mt:T1}{me:E1}{pos:Pos}(hc:X.calm=Zg)(hi:PIi ce X tg iter mi) 
  (hg:∀C s H fp,PGi ce (cxC X (loc++caps) scope C s H fp) tg g)(ht:∀C s H fp,PTsi ce (cxC X (loc++caps) scope C s H fp) ifs mt)(he:∀C s H fp,PEi ce (cxC X (loc++caps) scope C s H fp) elt me)
  (ok:QA N0 loc caps js sc₀ scope=Zg)(hN0:X.N=N0:=by rfl)(hsc:X.env.scope=sc₀:=by rfl)(hs:∀x,ZbS iter X.env x=pure x:=by intro _;rfl):PEi ce X (.ListComp elt [⟨tg,iter,ifs,0⟩] scope pos) (J0 mi loc.length js g mt me):=by
 intro pj s σ H ι σi h Q E N K
 rw[eval_ListComp]
 refine Jlf hi.c hg ht he ok hN0 hsc hs (λ _ _ _ _ _ _=>⟨rfl,rfl,rfl,hc⟩) N ?_
 cases e0:J0 mi loc.length js g mt me σi h with
 | exc n h'=>rw[e0] at K;exact K
 | stuck=>rw[e0] at K;exact K
 | ok v h' =>
  rw[e0] at K
  exact λ D C m s' H' ι' N' n' r hns fC=>⟨m,hns,λ h2 sb=>K _ _ H' ι' (N'.letgo fC sb) n' r⟩
theorem Jws {N0 loc caps:List Str}{js:List Nat}{sc₀ scope:Zbi}{tg iter elt:Expr}{ifs:List Expr}{g:G1}{mt:T1}{me:E1}{pos pos2 pos3:Pos}{i:Nat}{x:Str}(hc:X.calm=Zg)(hi:PIi ce X tg iter mi) 
  (hg:∀C s H fp,PGi ce (cxC X (loc++caps) scope C s H fp) tg g)(ht:∀C s H fp,PTsi ce (cxC X (loc++caps) scope C s H fp) ifs mt)(he:∀C s H fp,PEi ce (cxC X (loc++caps) scope C s H fp) elt me)
  (ok:QA N0 loc caps js sc₀ scope=Zg)(hN0:X.N=N0:=by rfl)(hsc:X.env.scope=sc₀:=by rfl)(hs:∀x,ZbS iter X.env x=pure x)
  (hN:X.N.Nodup)(hix:X.N[i]?=Za x)(hlx:Loc X.env.scope x)(hf:X.fn x=Zg∨X.env.scope.names.lookup x=Za .local)
  (hsw:Zdg (.ListComp elt [⟨tg,iter,ifs,0⟩] scope pos) (Za (.Name x pos2)) pos3.line X.env=pure Zg) :
  PS1 ce X (.Assign [.Name x pos2] (.ListComp elt [⟨tg,iter,ifs,0⟩] scope pos) pos3) (Ji i (J0 mi loc.length js g mt me)):=by
 intro pj s σ H ι σi h Q E N K
 rw[exec_Assign_Name_used _ _ _ _ hsw]
 refine Zd (Zb9 (Zd ?_))
 rw[arm_evalThenUse_ListComp]
 refine Zd ?_
 refine Jlf (use:=Za (ZdJ (.Name x pos2) X.env)) hi.c hg ht he ok hN0 hsc hs (λ _ _ _ _ _ _=>⟨rfl,rfl,rfl,hc⟩) N ?_
 unfold Ji at K
 cases e0:J0 mi loc.length js g mt me σi h with
 | exc n h'=>rw[e0] at K;exact λ pl a s' H' ι' N' n' q=>K pl a s' σ H' ι' N' n' q s' (.inl rfl)
 | stuck=>rw[e0] at K;exact K
 | ok v h' =>
  rw[e0] at K
  intro D C m s' H' ι' N' n' r hns fC
  obtain⟨w,rw',q⟩:=r
  obtain⟨oC,es,ep,hoC,hdC,hrest⟩:=id hns
  have hp:Inv X (pj++QJ [C] s'.heap) σ H' s':=N'.inv.pinned (λ b hb=>(show b=C by simpa using hb)▸fC) (λ b hb=>by
   have e:b=C:=by simpa using hb
   subst e
   exact⟨oC,hoC,λ v z=>by rw[hdC] at z;cases z⟩)
  refine wpAny_assign_Name (Jg3 hp hN hix hlx rw' (λ s2 I2=>?_) hf)
  have hC2:=(I2.pin (C,oC) (Zn _ (Zn _ (Yx (by simp) hoC)))).1
  refine⟨m,⟨oC,es,ep,hC2,hdC,hrest⟩,λ h2 sb=>Z0 ?_⟩
  have N2:Now ce X pj ι' (σi.set i (Za v)) h' (σ.set i (Za w)) H' s2:=⟨I2.unpinned,N'.rel,N'.st.set i q⟩
  exact Z0 (K _ _ H' ι' (N2.letgo fC sb) n')
def Vs (x:Str):List IV:=x.cps.toList.map λ c=>.str ⟨#[c]⟩
def Its (x:Str):It:=⟨λ i _=>i<x.cps.size,λ i H y H'=>H'=H/\∃c,x.cps[i]?=Za c/\y=.str ⟨#[c]⟩,λ i _=>x.cps.size<=i⟩
theorem Joz {P:ZA}{w:ZW}{K:W.Frag}{tg:Expr}{x:Str}{t:Tok}(it:Zm)(hty:["enumerate","zip","dict_itemiterator","dict_reverseitemiterator","odict_iterator","itertools.zip_longest","itertools.pairwise"].contains ty=Zj) 
  (W:∀A:ZO,A.handled=Zc->Walks P w A it [it] [it] x.cps.size (SignAt x) (λ i h=>h.IsStrIter it ty x t i))
  (We:∀(A:ZO)(E:QvT)(s:Zl)(i:Nat)(Q:Option Ze->Zl->Prop),A.handled=Zc->s.heap.IsStrIter it ty x t i->x.cps[i]?=Zc->(∀h',Heap.ExtBut it s.heap h'->Q Zc { s with heap:=h' })->Zx (Z8 P w) A (ZbU (.ref it)) Q E s)
  (Ws:∀(A:ZO)(E:QvT)(s:Zl)(i:Nat)(Q:QvT),s.heap.IsStrIter it ty x t i->Q (.ref it) s->Zx (Z8 P w) A (Zen (.ref it)) Q E s):Turn P w K tg (Its x) [it] it (λ i h=>h.IsStrIter it ty x t i) where
 mem:=by simp
 obj:=λ i h st b hb=>by
  have e:b=it:=by simpa using hb
  subst e
  obtain⟨o,e,c,d⟩:=st
  exact⟨o,e,λ v z=>by rw[d] at z;cases z⟩
 keep:=λ i h h' st k=>by
  obtain⟨o,e,r⟩:=st
  exact⟨o,k it (by simp) o e,r⟩
 item:=by
  intro X hP hw hK hc i pj s σ H E I hf st hg
  subst hP hw hK
  obtain⟨f0,f1,f2,f3,f4,f5⟩:=hf it (by simp)
  refine(W X.A (I.ok.hd hc)).item i s _ _ hg st λ v h' tk hv st' kk=>?_
  obtain⟨c,u,hcc,rfl⟩:=hv
  have I1:Inv X pj σ H { s with heap:=h',toks:=tk }:=I.turned (λ b o hb e=>kk b o (by simpa using hb) e) f0 f1 f3 f4 f5
  obtain⟨o,e,c1,d1⟩:=id st'
  exact⟨_,rfl,Jt2 (s:={ s with heap:=h',toks:=tk }) e c1 d1 hty ⟨.str ⟨#[c]⟩,H,I1,⟨u,rfl⟩,⟨rfl,c,hcc,rfl⟩,st',λ b hb=>(hf b hb).1⟩⟩
 done:=by
  intro X hP hw hK hc i pj s σ H E I hf st hg
  subst hP hw hK
  obtain⟨f0,f1,f2,f3,f4,f5⟩:=hf it (by simp)
  have hi:x.cps.size<=i:=hg
  have hx:x.cps[i]?=Zc:=by simp[hi]
  exact We X.A _ s i _ (I.ok.hd hc) st hx λ h' eb=>⟨rfl,I.turned (t':=s.toks) (λ b o hb e=>eb b o hb e) f0 f1 f3 f4 f5⟩
 self:=λ A i s Q E st h=>Ws A E s i Q st h
def Jug:IV->IH->Res ItI
 | .str x,h=>.ok ⟨Vs x,λ _=>True⟩ h
 | _,_=>.stuck
def iStr (e:E1):I1:=λ σ h=>(e σ h).bind Jug
theorem Jwg {x:Str}{ι:List Zm}{H₀:Hp}:ItOk ce X.K ι H₀ (Its x) ⟨Vs x,λ _=>True⟩:=by
 refine⟨λ k v h H ι' hp R hck hx=>?_,λ k h H ι' hp R hck hx=>?_⟩
 ·have hk:k<x.cps.size:=by
   have:=(Zr.mp hx).1
   simpa [Vs] using this
  refine⟨hk,λ y H' hy=>?_⟩
  obtain⟨rfl,c,hc,rfl⟩:=hy
  simp only[Vs,Zv,ZdQ,hc] at hx
  cases hx
  exact⟨R,.refl,rfl⟩
 ·have:(Vs x).length=x.cps.size:=by simp[Vs]
  show x.cps.size<=k
  rw[<- this]
  exact hx
theorem Jp1 {tg l:Expr}{ml:E1}(hl:PEi ce X l ml):PIi ce X tg l (iStr ml):=by
 intro pj s σ H ι σi h Q E N K
 refine hl pj s σ H ι σi h _ E N ?_
 unfold iStr at K
 cases e0:ml σi h with
 | exc n h'=>rw[e0] at K;exact K
 | stuck=>rw[e0] at K;exact K
 | ok v h' =>
  rw[e0] at K
  intro u s1 H1 ι1 N1 n1 r1
  obtain⟨w,rw',q⟩:=r1
  have fresh:∀b∈[s1.heap.objs.size],FpOk X pj H1 b:=λ b hb=>by
   have e:b=s1.heap.objs.size:=by simpa using hb
   subst e
   exact N1.inv.fpOk (Zo _) (N1.inv.hok.fresh (Zo _))
  cases v with
  | str x =>
   have e1:w=.str x:=q
   subst e1
   obtain⟨t,rfl⟩:=rw'
   simp only[Res.bind,Jug] at K
   cases ha:x.cps.all (· < 128) with
   | true =>
    refine wpAny_pyIter_ascii ha (K _ _ H1 ι1 ⟨N1.inv.kept (t':=s1.toks) λ b o e=>Zh _ e,N1.rel,N1.st⟩ n1 ?_)
    exact⟨s1.heap.objs.size,[s1.heap.objs.size],_,Its x,rfl,Joz (ty:="str_ascii_iterator") (t:=t) _ (by decide) (λ A hA=>Walks.strAscii hA _ x t) (λ A E s i Q hA st hx hQ=>wpAny_pyNext_ascii_end hA st hx hQ) (λ A E s i Q st hq=>wpAny_pyIter_striter_ascii st hq),⟨_,Z2 _ rfl,rfl,rfl⟩,fresh,Jwg⟩
   | false =>
    refine wpAny_pyIter_wide ha (K _ _ H1 ι1 ⟨N1.inv.kept (t':=s1.toks) λ b o e=>Zh _ e,N1.rel,N1.st⟩ n1 ?_)
    exact⟨s1.heap.objs.size,[s1.heap.objs.size],_,Its x,rfl,Joz (ty:="str_iterator") (t:=t) _ (by decide) (λ A hA=>Walks.strWide hA _ x t) (λ A E s i Q hA st hx hQ=>wpAny_pyNext_wide_end hA st hx hQ) (λ A E s i Q st hq=>wpAny_pyIter_striter_wide st hq),⟨_,Z2 _ rfl,rfl,rfl⟩,fresh,Jwg⟩
  | _=>simp only[Res.bind,Jug] at K
def Ite (K:W.Frag)(a:Zm):It :=
 ⟨λ i H=>∃xs x,SqL K H a xs/\xs[i]?=Za x,λ i H y H'=>∃p x,H p=Zc/\y=.ref p/\H'=upd H p (.tup [.int (i:Int),x])/\∀xs,SqL K H a xs->xs[i]?=Za x,λ i H=>∃xs,SqL K H a xs/\xs.length<=i⟩
theorem Js6 {P:ZA}{w:ZW}{K:W.Frag}{es:List Expr}{k:Nat}{p:Pos}(a it e:Zm)(hne:e≠it):Turn P w K (.Tuple es k p) (Ite K a) [e,it] e (λ i h=>(∃old,IsEnum h e it (i:Int) old)/\h.IsListIter it a i) where
 mem:=by simp
 obj:=λ i h st b hb=>by
  obtain⟨⟨old,he⟩,o,e1,c,d⟩:=st
  simp only[Z6,ZT,or_false] at hb
  rcases hb with rfl|rfl
  ·exact⟨_,he,λ v z=>by
    have z':Data.fields _=Ze2 v:=z
    cases z'⟩
  ·exact⟨o,e1,λ v z=>by rw[d] at z;cases z⟩
 keep:=λ i h h' st k=>⟨let ⟨old,he⟩:=st.1;⟨old,k e (by simp) _ he⟩,st.2.at λ o e=>k it (by simp) o e⟩
 item:=by
  intro X hP hw hK hc i pj s σ H E I hf st hg
  subst hP hw hK
  obtain⟨⟨old,he⟩,hit⟩:=st
  obtain⟨xs,x,hq,hx⟩:=hg
  obtain⟨its,rv,pl,hz⟩:=I.list hq
  obtain⟨u,hu,ru⟩:=rv.get hx
  have fe:=hf e (by simp)
  have fi:=hf it (by simp)
  have hn:H s.heap.objs.size=Zc:=I.hok.fresh (Zo _)
  refine wpAny_pyNext_enum_item he hit pl.isList (x:=u) (by simpa using hu) hne λ h' he' hit' ht hsz kk=>?_
  refine⟨_,rfl,wpAny_letOwnedTupleGo_enum he' λ h2 he2 sb=>?_⟩
  have ltE:e<s.heap.objs.size:=Z1 he
  have neT:s.heap.objs.size≠e:=ZaL ltE
  have k2:∀b o,b≠e->b≠it->s.heap.get? b=Za o->h2.get? b=Za o:=λ b o h1 h3 q=>(sb.2 b h1).trans (kk b o h1 h3 q)
  have hl2:h2.IsListIter it a (i+1):=by
   obtain⟨o,q,r⟩:=hit'
   exact⟨o,(sb.2 it (ZQ hne)).trans q,r⟩
  have t2:h2.get? s.heap.objs.size=Za { cls:=.type "tuple",data:=.seq #[.int i s.toks,u] }:=(sb.2 _ neT).trans ht
  -- the two records turn, then the tuple is tracked
  obtain⟨oe,hoe⟩:∃o,s.heap.get? e=Za o:=⟨_,he⟩
  obtain⟨oi,hoi,_⟩:=id hit
  have neP:∀b u,H b=Za u->b≠s.heap.objs.size:=λ b u q=>Vq q hn
  have I1:Inv X pj σ (upd H s.heap.objs.size (.tup [.int (i:Int),x])) { s with heap:=h2,toks:=s.toks+1 }:=by
   refine I.step (g':=s.gens) (d':=s.drawn) (ch:=[e,it]) (λ b hb=>?_) (λ b o _ _ hc q _=>k2 b o (λ z=>hc (by simp[z])) (λ z=>hc (by simp[z])) q) (λ b o _ _ hc q _=>⟨o.slots,k2 b o (λ z=>hc (by simp[z])) (λ z=>hc (by simp[z])) q⟩) (λ b o _ q n=>?_)
    (λ b o hc q=>⟨o,k2 b o (λ z=>hc (by simp[z])) (λ z=>hc (by simp[z])) q⟩) (λ b xs q=>by rw[Jr (neP b _ q)];exact q) (λ b o u q=>by rw[Jr (neP b _ q)];exact q) (λ b ps q=>⟨#[],by rw[Jr (neP b _ q),q];simp⟩) (λ m hm=>?_) (λ b u q=>?_) I.bare
   ·simp only[Z6,ZT,or_false] at hb
    rcases hb with rfl|rfl
    ·exact⟨fe.2.2.2.1,fe.2.1,fe.2.2.2.2.1,fe.2.2.2.2.2⟩
    ·exact⟨fi.2.2.2.1,fi.2.1,fi.2.2.2.2.1,fi.2.2.2.2.2⟩
   ·rw[Jr (Z5 (Z1 q))];exact n
   ·obtain⟨o,es,ep,ho,r⟩:=hm
    exact⟨o,es,ep,k2 _ o (ZQ fe.2.1) (ZQ fi.2.1) ho,r⟩
   ·by_cases hb:b=s.heap.objs.size
    ·subst hb
     rw[J7] at q
     cases q
     exact⟨by show 2<=sizeLine;decide,[.int i s.toks,u],.cons ⟨_,rfl⟩ (.cons ru .nil),⟨_,t2,rfl,_,rfl⟩⟩
    ·rw[Jr hb] at q
     have n1:b≠e:=λ z=>by rw[z,fe.1] at q;cases q
     have n2:b≠it:=λ z=>by rw[z,fi.1] at q;cases q
     refine(I.hok b u q).stay (λ c v hc r=>k2 c v ?_ ?_ r) (λ c q=>by rw[Jr (neP c _ q)];exact q) λ c ys q=>by rw[Jr (neP c _ q)];exact q
     ·rcases hc with z|z
      ·rw[z];exact n1
      ·intro y;rw[y,fe.1] at z;cases z
     ·rcases hc with z|z
      ·rw[z];exact n2
      ·intro y;rw[y,fi.1] at z;cases z
  refine⟨.ref s.heap.objs.size,_,I1,rfl,⟨s.heap.objs.size,x,hn,rfl,rfl,λ ys hy=>by rw[I.list_inj hy hq];exact hx⟩,⟨⟨_,he2⟩,hl2⟩,λ b hb=>?_⟩
  simp only[Z6,ZT,or_false] at hb
  rcases hb with rfl|rfl
  ·rw[Jr (Z5 ltE)];exact fe.1
  ·rw[Jr (Z5 (Z1 hoi))];exact fi.1
 done:=by
  intro X hP hw hK hc i pj s σ H E I hf st hg
  subst hP hw hK
  obtain⟨⟨old,he⟩,hit⟩:=st
  obtain⟨xs,hq,hx⟩:=hg
  obtain⟨its,rv,p,hz⟩:=I.list hq
  obtain⟨f0,f1,f2,f3,f4,f5⟩:=hf it (by simp)
  have hl:=rv.length
  exact wpAny_pyNext_enum_end (I.ok.hd hc) he hit p.isList (by simp;omega) λ h' eb=>⟨rfl,I.turned (t':=s.toks) (λ b o hb e=>eb b o hb e) f0 f1 f3 f4 f5⟩
 self:=λ _ _ _ _ _ st h=>let ⟨_,he⟩:=st.1;wpAny_pyIter_enum he h
noncomputable def Q5 (n:Nat):List IV->List IV
 | []=>[]
 | x::xs=>.tup [.int n,x]::Q5 (n+1) xs
theorem Jhr:∀(xs:List IV)(n k:Nat),(Q5 n xs)[k]?=(xs[k]?).map λ x=>.tup [.int ((n+k:Nat):Int),x]
 | [],_,_=>by simp[Q5]
 | x::xs,n,0=>by simp[Q5]
 | x::xs,n,k+1=>by
  simp only[Q5,Za9]
  rw[Jhr xs (n+1) k]
  have:n+1+k=n+(k+1):=by omega
  rw[this]
theorem VU:∀(xs:List IV)(n:Nat),(Q5 n xs).length=xs.length
 | [],_=>rfl
 | _::xs,n=>by simp[Q5,VU xs]
def QD:List IV->IH->Res ItI
 | [.ref i],h=>match h[i]? with
  | some (.lst xs)=>.ok ⟨Q5 0 xs,λ h'=>h'[i]?=Za (.lst xs)⟩ h
  | _=>.stuck
 | _,_=>.stuck
theorem J0p {i:Nat}{ι:List Zm}(ha:ι[i]?=Za a):ItOk ce X.K ι H₀ (Ite X.K a) ⟨Q5 0 xs,λ h'=>h'[i]?=Za (.lst xs)⟩:=by
 refine⟨λ k v h H ι' hp R hck hx=>?_,λ k h H ι' hp R hck hx=>?_⟩
 ·obtain⟨vs,e1,r1⟩:=R.get hck (hp.at ha)
  have hx':(Q5 0 xs)[k]?=Za v:=hx
  rw[Jhr] at hx'
  obtain⟨x,hxk,rfl⟩:=ZF.mp hx'
  obtain⟨u,hu,qu⟩:=r1.get hxk
  refine⟨⟨vs,u,SqL.of e1,hu⟩,λ y H' hy=>?_⟩
  obtain⟨p,x',hp0,rfl,rfl,hy⟩:=hy
  have:=hy vs (SqL.of e1)
  rw[hu] at this
  cases this
  obtain⟨R',n'⟩:=R.grow (o:=.tup [.int (k:Int),u]) hp0
  refine⟨R',n',p,_,rfl,SqT.of J7,⟨_,_,rfl,?_,_,_,rfl,RV.mono n' _ _ qu,rfl⟩⟩
  show V.int (k:Int)=V.int ((0+k:Nat):Int)
  simp
 ·obtain⟨vs,e1,r1⟩:=R.get hck (hp.at ha)
  exact⟨vs,SqL.of e1,by rw[r1.length,<-VU xs 0];exact hx⟩
theorem J0h {es:List Expr}{kt:Nat}{pt:Pos}{a:Expr}{ma:A1}{p pos:Pos}(hg:Gl X "enumerate")(hm:X.mg "enumerate"=Zc)(ha:PAi ce X [a] ma)(hs:ZG [a] X.env=[(Zj,Zbe a X.env)]:=by rfl):PIi ce X (.Tuple es kt pt) (.Call (.Name "enumerate" p) [a] [] pos) (iRg QD ma):=by
 intro pj s σ H ι σi h Q E N K
 refine Call_ (QG N.inv hg hm boot_enumerate (ZaR ?_ hs rfl))
 refine ha pos pj s σ H ι σi h _ E N ?_
 unfold iRg at K
 cases e0:ma σi h with
 | exc n h'=>rw[e0] at K;exact K
 | stuck=>rw[e0] at K;exact K
 | ok vs h' =>
  rw[e0] at K
  intro us s1 H1 ι1 N1 n1 r1
  obtain⟨xs,rv,qs⟩:=r1
  match vs,K with
  | [.ref i],K =>
   obtain⟨w,e1,q⟩:=qs.one_of
   subst e1
   obtain⟨b,e3,hb⟩:=q
   subst e3
   obtain⟨u,rfl,ru⟩:=Q0 rv
   cases ru
   cases hi:h'[i]? with
   | none=>simp only[Res.bind,QD,hi] at K
   | some ob =>
    cases ob with
    | lst ys =>
     simp only[Res.bind,QD,hi] at K
     obtain⟨ws,eH,rH⟩:=N1.at hi hb
     obtain⟨z,its,n,r,hl,eo⟩:=N1.inv.lstM eH
     refine call_enumerate_1 eo λ h2 he hit hsz kp=>?_
     refine wpAny_pyIter_enum he (K _ _ H1 ι1 ⟨N1.inv.kept (t':=s1.toks) kp,N1.rel,N1.st⟩ n1 ?_)
     refine⟨s1.heap.objs.size+1,[s1.heap.objs.size+1,s1.heap.objs.size],_,Ite X.K b,rfl,Js6 b s1.heap.objs.size (s1.heap.objs.size+1) (ZaL (Za2 _)),⟨⟨_,he⟩,hit⟩,λ c hc=>?_,J0p hb⟩
     simp only[Z6,ZT,or_false] at hc
     rcases hc with rfl|rfl
     ·exact N1.inv.fpOk (ZaZ _) (N1.inv.hok.fresh (ZaZ _))
     ·exact N1.inv.fpOk (Zo _) (N1.inv.hok.fresh (Zo _))
    | _=>simp only[Res.bind,QD,hi] at K
  | [],K=>exact Zf K
  | .non::_,K=>exact Zf K
  | .bl _::_,K=>exact Zf K
  | .str _::_,K=>exact Zf K
  | .tup _::_,K=>exact Zf K
  | .rol _::_,K=>exact Zf K
  | .int _::_,K=>exact Zf K
  | .ref _::_::_,K=>exact Zf K
end
noncomputable def X5:IV->IH->Res ItI
 | .str x,h=>Jug (.str x) h
 | v,h=>itOf v h
def Jx (e:E1):I1:=λ σ h=>(e σ h).bind X5
theorem Jt6 {ce:CeT}{X:Cx}{tg l:Expr}{ml:E1}(hl:PEi ce X l ml):PIi ce X tg l (Jx ml):=by
 intro pj s σ H ι σi h Q E N K
 cases e0:ml σi h with
 | ok v h' =>
  cases v with
  | str x=>exact Jp1 (tg:=tg) hl pj s σ H ι σi h Q E N (by unfold iStr;unfold Jx at K;rw[e0] at K ⊢;exact K)
  | _=>exact Jrs (tg:=tg) hl pj s σ H ι σi h Q E N (by unfold iVal;unfold Jx at K;rw[e0] at K ⊢;exact K)
 | exc n h'=>exact Jrs (tg:=tg) hl pj s σ H ι σi h Q E N (by unfold iVal;unfold Jx at K;rw[e0] at K ⊢;exact K)
 | stuck=>exact Jrs (tg:=tg) hl pj s σ H ι σi h Q E N (by unfold iVal;unfold Jx at K;rw[e0] at K ⊢;exact K)
section
variable {ce:CeT}{X:Cx}
theorem x_sl:SlI ce X slI:=by
 intro pj s σ H ι σi h x v vl vu lo hi sl Q E N rx hs pl pu K
 obtain⟨xv,rx,qx⟩:=rx
 cases x with
 | ref i =>
  obtain⟨a,e1,ha⟩:=qx
  subst e1
  dsimp only[slI] at K
  cases hi':h[i]? with
  | none=>rw[hi'] at K;exact Zf K
  | some ob =>
   rw[hi'] at K
   cases ob with
   | lst xs =>
    obtain⟨vs,e1,r1⟩:=N.at hi' ha
    exact Jw6 (Jsz (X:=X.wish E)) N.inv rx hs pl pu ⟨a,vs,rfl,SqL.of e1,λ p hp=>finA N K p hp ⟨_,J7,RVs.new hp (r1.cut lo hi)⟩⟩
   | _=>exact Zf K
 | rol xs =>
  obtain⟨a,vs,e1,sa,ra⟩:=qx
  subst e1
  exact Jw6 (Jsz (X:=X.wish E)) N.inv rx hs pl pu ⟨a,vs,rfl,sa.sq,λ p hp=>finA N K p hp ⟨_,J7,RVs.new hp (ra.cut lo hi)⟩⟩
 | _=>exact Zf K
noncomputable def Vo:IV->IH->Res IV
 | .ref i,h=>match h[i]? with
  | some (.lst xs)=>.ok (.ref h.length) (h++[.lst xs])
  | _=>.stuck
 | .rol xs,h=>.ok (.ref h.length) (h++[.lst xs])
 | .tup xs,h=>.ok (.ref h.length) (h++[.lst xs])
 | _,_=>.stuck
theorem Jzx:Qi ce X (.type "list") (on1 Vo):=Vi λ pj s σ H ι σi h x xv u Q E N ru qx K=>by
 cases x with
 | ref i =>
  obtain⟨a,e1,ha⟩:=qx
  subst e1
  dsimp only[Vo] at K
  cases hi:h[i]? with
  | none=>rw[hi] at K;exact Zf K
  | some ob =>
   rw[hi] at K
   cases ob with
   | lst xs =>
    obtain⟨vs,e1,r1⟩:=N.at hi ha
    exact Q7 (Jc6 (X:=X.wish E)) N.inv (.cons ru .nil) ⟨a,vs,rfl,.inl (SqL.of e1),λ p hp=>finA N K p hp ⟨_,J7,RVs.new hp r1⟩⟩
   | _=>exact Zf K
 | rol xs =>
  obtain⟨a,vs,e1,sa,ra⟩:=qx
  subst e1
  exact Q7 (Jc6 (X:=X.wish E)) N.inv (.cons ru .nil) ⟨a,vs,rfl,.inl sa.sq,λ p hp=>finA N K p hp ⟨_,J7,RVs.new hp ra⟩⟩
 | tup xs =>
  obtain⟨a,vs,e1,sa,ra⟩:=qx
  subst e1
  exact Q7 (Jc6 (X:=X.wish E)) N.inv (.cons ru .nil) ⟨a,vs,rfl,.inr sa,λ p hp=>finA N K p hp ⟨_,J7,RVs.new hp ra⟩⟩
 | _=>exact Zf K
noncomputable def Xw:IV->IH->Res IV
 | .ref i,h=>match h[i]? with
  | some (.lst xs)=>.ok (.tup xs) h
  | _=>.stuck
 | .tup xs,h=>.ok (.tup xs) h
 | _,_=>.stuck
theorem Jxk:Qi ce X (.type "tuple") (on1 Xw):=Vi λ pj s σ H ι σi h x xv u Q E N ru qx K=>by
 cases x with
 | ref i =>
  obtain⟨a,e1,ha⟩:=qx
  subst e1
  dsimp only[Xw] at K
  cases hi:h[i]? with
  | none=>rw[hi] at K;exact Zf K
  | some ob =>
   rw[hi] at K
   cases ob with
   | lst xs =>
    obtain⟨vs,e1,r1⟩:=N.at hi ha
    exact Q7 (Jfa (X:=X.wish E)) N.inv (.cons ru .nil) ⟨a,vs,rfl,.inl ⟨SqL.of e1,λ p hp=>finT N K p hp r1⟩⟩
   | _=>exact Zf K
 | tup xs =>
  have qx':=qx
  obtain⟨a,vs,e1,sa,ra⟩:=qx
  subst e1
  exact Q7 (Jfa (X:=X.wish E)) N.inv (.cons ru .nil) ⟨a,vs,rfl,.inr ⟨sa,fin0 N K qx'⟩⟩
 | _=>exact Zf K
def intI:IV->IH->Res IV
 | .int i,h=>.ok (.int i) h
 | .bl b,h=>.ok (.int (if b then 1 else 0)) h
 | _,_=>.stuck
theorem VR:Qi ce X (.type "int") (on1 intI):=Vi λ pj s σ H ι σi h x xv u Q E N ru qx K=>by
 cases x with
 | int i =>
  have e:xv=.int i:=qx
  subst e
  exact Q7 (Jla (X:=X.wish E)) N.inv (.cons ru .nil) (.inl ⟨i,rfl,fin0 N K rfl⟩)
 | bl b =>
  have e:xv=.bl b:=qx
  subst e
  exact Q7 (Jla (X:=X.wish E)) N.inv (.cons ru .nil) (.inr ⟨b,rfl,fin0 N K rfl⟩)
 | _=>exact Zf K
def Xj:List IV->Option (List Bool)
 | []=>Za []
 | .bl b::r=>(Xj r).map (b:: ·)
 | _::_=>Zc
noncomputable def allI:IV->IH->Res IV
 | .ref i,h=>match h[i]? with
  | some (.lst xs)=>(match Xj xs with
   | some bs=>.ok (.bl (bs.all id)) h
   | none=>.stuck)
  | _=>.stuck
 | _,_=>.stuck
theorem Jn6 {K:W.Frag}{ι:List Zm}{H:Hp}:∀{xs:List IV}{bs:List Bool}{vs:List V}{us:List Ze},Xj xs=Za bs->RVs K ι H xs vs->Vals vs us->us=bs.map ZcH
 | [],bs,vs,us,e,q,r=>by
  cases e
  have e1:vs=[]:=q
  subst e1
  cases r
  rfl
 | x::xs,bs,vs,us,e,q,r=>by
  obtain⟨v,vr,e1,q1,q2⟩:=q
  subst e1
  cases r with
  | cons r1 r2 =>
   cases x with
   | bl b =>
    obtain⟨b2,e2,rfl⟩:=ZF.mp (show(Xj xs).map (b:: ·)=Za bs from e)
    cases (show v=.bl b from q1)
    cases r1
    rw[Jn6 e2 q2 r2]
    rfl
   | _=>cases e
theorem Jqv (bs:List Bool):((ZN bs.length).all λ i=>bs.getD i Zg)=bs.all id:=by
 induction bs with
 | nil=>rfl
 | cons b r ih =>
  rw[ZB,List.range_succ_eq_map,Zao,List.all_map,Zao]
  have e:((ZN r.length).all ((λ i=>(b::r).getD i Zg)∘Nat.succ))=(ZN r.length).all λ i=>r.getD i Zg:=by
   congr 1
  rw[e,ih]
  rfl
theorem J2s (hh:X.A.handled=Zc):Qi ce X (.builtin "all") (on1 allI):=Vi λ pj s σ H ι σi h x xv u Q E N ru qx K=>by
 cases x with
 | ref i =>
  obtain⟨a,e1,ha⟩:=qx
  subst e1
  cases ru
  dsimp only[allI] at K
  cases hi:h[i]? with
  | none=>rw[hi] at K;exact Zf K
  | some ob =>
   rw[hi] at K
   cases ob with
   | lst xs =>
    dsimp only at K
    cases hb:Xj xs with
    | none=>rw[hb] at K;exact Zf K
    | some bs =>
     rw[hb] at K
     obtain⟨vs,e1,r1⟩:=N.at hi ha
     obtain⟨its,rv,pl,hz⟩:=N.inv.list (SqL.of e1)
     have eu:=Jn6 hb r1 rv
     subst eu
     refine call_all_walk (ZaU pl.isList ?_)
     have hlt:a<s.heap.objs.size:=by obtain⟨o,_,ho,_⟩:=pl;exact Z1 ho
     have ne:a≠s.heap.objs.size:=Z5 hlt
     refine⟨s.heap.objs.size,_,_,_,_,_,λ i=>bs.getD i Zg,rfl,ZcN (prog:=X.prog) (w:=X.w) (A:=X.A.in1) hh s.heap.objs.size a ne (bs.map ZcH).toArray,⟨⟨_,Z2 _ rfl,rfl,rfl⟩,?_⟩,?_,λ h' tk kk=>?_⟩
     ·obtain⟨o,n,ho,hc,_,hd⟩:=pl
      exact⟨o,Zh _ ho,hc,n,hd⟩
     ·intro i v s' Q' E' hP hq
      simp only[ZdR,Zv] at hP
      obtain⟨b,hb',rfl⟩:=ZF.mp hP
      refine ZaT ?_
      have:bs.getD i Zg=b:=by simp[List.getD,hb']
      rw[<- this]
      exact hq
     ·rw[show(bs.map ZcH).toArray.size=bs.length by simp,Jqv]
      have I1:Inv X pj σ H { s with heap:=s.heap.push { cls:=.type "list_iterator",data:=.fields #[.ref a,.int 0 0] } }:=N.inv.kept (t':=s.toks) λ b o e=>Zh _ e
      have f:=N.inv.fpOk (Zo _) (N.inv.hok.fresh (Zo _))
      exact fin0 N K rfl _ _ (I1.turned (t':=tk) (it:=s.heap.objs.size) (λ b o hb e=>kk b o (by simpa using hb) e) f.1 f.2.1 f.2.2.2.1 f.2.2.2.2.1 f.2.2.2.2.2) rfl
   | _=>exact Zf K
 | _=>exact Zf K
def MtI (ce:CeT)(X:Cx)(T id:String)(g:IV->List IV->IH->Res IV):Prop :=
 ∀(pj:PnT)(s:Zl)(σ:L2.St)(H:Hp)(ι:List Zm)(σi:ISt)(h:IH)(x:IV)(xs:List IV)(v:Ze)(us:List Ze)(Q:QvT)(E:QvT),Now ce X pj ι σi h σ H s->RU X.K ι H x v->RUs X.K ι H xs us ->
  Kont ce X RU pj ι σi σ H (g x xs h) Q E->Zx (Z8 X.prog X.w) X.A (call (.builtin id) (v::us)) Q E s
def tyOk (T:String):IV->IH->Bool
 | .str _,_=>T=="str"
 | .int _,_=>T=="int"
 | .ref i,h=>match h[i]? with
  | some (.lst _)=>T=="list"
  | some (.dct _)=>T=="dict"
  | _=>Zj
 | .rol _,_=>T=="list"
 | _,_=>Zj
def eBm (T:String)(g:IV->List IV->IH->Res IV)(o:E1)(a:A1):E1:=λ σ h=>(o σ h).bind λ x h1=>if tyOk T x h1=Zg then(a σ h1).bind λ xs h2=>g x xs h2 else .stuck
theorem Jw2 (N:Now ce X pj ι σi h σ H s)(q:RV X.K ι H x xv)(e:tyOk T x h=Zg):tyV X.K T xv H:=by
 cases x with
 | str y=>cases (show xv=.str y from q);exact beq_iff_eq.mp e
 | int y=>cases (show xv=.int y from q);exact beq_iff_eq.mp e
 | rol y =>
  obtain⟨a,vs,rfl,sa,_⟩:=q
  exact .inl ⟨beq_iff_eq.mp e,vs,sa.sq⟩
 | ref i =>
  obtain⟨a,rfl,ha⟩:=q
  cases hi:h[i]? with
  | none=>simp[tyOk,hi] at e
  | some ob =>
   cases ob with
   | lst xs =>
    simp only[tyOk,hi] at e
    obtain⟨vs,e1,_⟩:=N.at hi ha
    exact .inl ⟨beq_iff_eq.mp e,vs,SqL.of e1⟩
   | dct kvs =>
    simp only[tyOk,hi] at e
    obtain⟨vs,e1,_⟩:=N.at hi ha
    exact .inr (.inr (.inl ⟨beq_iff_eq.mp e,.inl ⟨vs,e1⟩⟩))
   | _=>simp[tyOk,hi] at e
 | _=>simp[tyOk] at e
variable {o a:Expr}{es:List Expr}{mo:E1}{ma:A1}{name:Str}{apos cpos:Pos}{T id:String}{g:IV->List IV->IH->Res IV}
theorem i_bm (pa:PlainAttrs T)(slot:Slot T name id)(hty:typeOf (.builtin id)=pure (.type "method_descriptor"))(hm:MtI ce X T id g)(ho:PEi ce X o mo)(ha:PAi ce X (a::es) ma) 
  (hbase:ZcP o name X.env (Zbe o X.env)=Zbe o X.env:=by rfl)
  (hfew:((Zbj cpos (ZG (a::es) X.env)).all (λ x=>!x.1)&&(Zd7 cpos (Zcx [] X.env)).all (λ x=>x.1.isSome)
   && decide ((a::es).length+([]:List Zed).length+(if ([]:List Zed).isEmpty then 0 else 1)<30))=Zg:=by rfl)
  (hline:(apos.endLine==cpos.line)=Zg:=by rfl) (hs:ZG (a::es) X.env=(Zj,Zbe a X.env)::ZG es X.env:=by rfl) (hplain:(Zbj cpos (ZG es X.env)).any (·.1)=Zj:=by rfl) :
  PEi ce X (.Call (.Attribute o name apos) (a::es) [] cpos) (eBm T g mo ma):=by
 intro pj s σ H ι σi h Q E N K
 refine wpAny_Call_method_late hbase hfew hline rfl (ho.run N K λ x h1 v s1 H1 ι1 N1 n1 r1 K1=>?_)
 by_cases hty1:tyOk T x h1=Zg
 ·rw[if_pos hty1] at K1
  obtain⟨xv,rx,qx⟩:=r1
  obtain⟨h1',h2'⟩:=Jw3 N1.inv rx (Jw2 N1 qx hty1)
  refine⟨T,id,pa,slot,hty,h1',h2',?_⟩
  have hA:=(ha cpos).run (Q1:=λ us s2=>Zx (Z8 X.prog X.w) X.A (call (.builtin id) (v::us)) Q E s2) N1 K1 λ xs h2 us s2 H2 ι2 N2 n2 r2 K2=>hm pj s2 σ H2 ι2 σi h2 x xs v us Q E N2 ⟨xv,rx,RV.mono n2 _ _ qx⟩ r2 K2
  rw[hs] at hA ⊢
  exact ZdK (by show(Zj||(Zbj cpos (ZG es X.env)).any (·.1))=Zj;rw[hplain]<;>rfl) (Calls.evalArgs_plain hA)
 ·rw[if_neg hty1] at K1
  exact Zf K1
theorem J27 (pa:PlainAttrs T)(slot:Slot T name id)(hty:typeOf (.builtin id)=pure (.type "method_descriptor"))(hm:MtI ce X T id g)(ho:PEi ce X o mo) 
  (hbase:ZcP o name X.env (Zbe o X.env)=Zbe o X.env:=by rfl)(hline:(apos.endLine==cpos.line)=Zg:=by rfl):PEi ce X (.Call (.Attribute o name apos) [] [] cpos) (eBm T g mo Jd):=by
 intro pj s σ H ι σi h Q E N K
 refine wpAny_Call_method0_late hbase hline (ho.run N K λ x h1 v s1 H1 ι1 N1 n1 r1 K1=>?_)
 by_cases hty1:tyOk T x h1=Zg
 ·rw[if_pos hty1] at K1
  obtain⟨xv,rx,qx⟩:=r1
  obtain⟨h1',h2'⟩:=Jw3 N1.inv rx (Jw2 N1 qx hty1)
  exact⟨T,id,pa,slot,hty,h1',h2',ZdK rfl (PySem.evalArgs_none (hm pj s1 σ H1 ι1 σi h1 x [] v [] Q E N1 ⟨xv,rx,qx⟩ .nil K1))⟩
 ·rw[if_neg hty1] at K1
  exact Zf K1
theorem Jw5 {pj:PnT}{s:Zl}{σ:L2.St}{H:Hp}{Q:QvT}{E:QvT}{r:V->List V->Hp->VK->Prop}{x:V}{xs:List V}{v:Ze}{us:List Ze}(p:MtM (X.wish E) id r)(I:Inv X pj σ H s)(rx:RelV x v)(rs:Vals xs us)
  (k:r x xs H λ z H'=>∀u s',Inv X pj σ H' s'->RelV z u->Q u s'):Zx (Z8 X.prog X.w) X.A (call (.builtin id) (v::us)) Q E s :=
 Zam (p pj s σ H x xs v us _ (I.wish E) rx rs k) (λ u s' ⟨_,_,I',r,q⟩=>q u s' I'.unwish r) λ _ _ z=>z
theorem finW {b:Zm}{vs ws:List V}{w:V}(N:Now ce X pj ι σi h σ H s)(K:Kont ce X RU pj ι σi σ H (.ok v (h.set i (.lst ys))) Q E) 
  (hb:ι[i]?=Za b)(eH:H b=Za (.lst vs))(r:RVs X.K ι H ys ws)(q:RV X.K ι H v w):∀u s',Inv X pj σ (upd H b (.lst ws)) s'->RelV w u->Q u s':=λ u s' I ru=>by
 have n:Nxt ι H ι (upd H b (.lst ws)):=⟨⟨[],by simp⟩,Ext.upd_mut eH (by rw[eH];exact Zaq)⟩
 obtain⟨R,_⟩:=N.rel.write (o:=.lst ws) (io:=.lst ys) hb eH (by rw[eH];exact Zaq) ⟨_,J7,RVs.mono n _ _ r⟩
 exact K u s' _ ι ⟨I,R,N.st.mono n⟩ n ⟨w,ru,RV.mono n _ _ q⟩
def Xh:IV->List IV->IH->Res IV
 | .ref i,[y],h=>match h[i]? with
  | some (.lst xs)=>if xs.length<sizeLine then .ok .non (h.set i (.lst (xs++[y]))) else .stuck
  | _=>.stuck
 | _,_,_=>.stuck
theorem Jul:MtI ce X "list" "list.append" Xh:=by
 intro pj s σ H ι σi h x xs v us Q E N rx rs K
 obtain⟨xv,rx,qx⟩:=rx
 obtain⟨vs,rv,qs⟩:=rs
 cases x with
 | ref i =>
  match xs,K with
  | [y],K =>
   obtain⟨a,rfl,ha⟩:=qx
   obtain⟨w,rfl,qw⟩:=qs.one_of
   dsimp only[Xh] at K
   cases hi:h[i]? with
   | none=>rw[hi] at K;exact Zf K
   | some ob =>
    rw[hi] at K
    cases ob with
    | lst zs =>
     dsimp only at K
     split at K
     ·rename_i hz
      obtain⟨ws,e1,r1⟩:=N.at hi ha
      exact Jw5 (Jl4 (X:=X.wish E)) N.inv rx rv ⟨a,ws,w,rfl,rfl,e1,by rw[r1.length];exact hz,finW N K ha e1 (r1.append (RVs.one qw)) rfl⟩
     ·exact Zf K
    | _=>exact Zf K
  | [],K=>exact Zf K
  | _::_::_,K=>exact Zf K
 | _=>cases xs<;>exact Zf K
def setI:IV->IV->IV->ISt->IH->SRes
 | .ref i,.int k,v,σ,h=>match h[i]? with
  | some (.lst xs)=>(match ixN xs.length k with
   | some j=>.next σ (h.set i (.lst (xs.set j v)))
   | none=>.stuck)
  | _=>.stuck
 | _,_,_,_,_=>.stuck
end
section
variable {ce:CeT}{X:Cx}
noncomputable def keyI:IV->Option Key
 | .int i=>Za (.inl i)
 | .str x=>Za (.inr x)
 | _=>Zc
theorem Jgy {K:W.Frag}{ι:List Zm}{H:Hp}{x:IV}{v:V}{k:Key}(e:keyI x=Za k)(r:RV K ι H x v):v=kV k:=by
 cases x with
 | int i=>cases e;exact r
 | str y=>cases e;exact r
 | _=>cases e
def maxI:IV->IV->IH->Res IV
 | .int i,.int j,h=>.ok (.int (if j>i then j else i)) h
 | _,_,_=>.stuck
def minI:IV->IV->IH->Res IV
 | .int i,.int j,h=>.ok (.int (if j<i then j else i)) h
 | _,_,_=>.stuck
theorem J2u (hc:X.calm=Zg):Qi ce X (.builtin "max") (on2 maxI):=by
 intro pj s σ H ι σi h xs us Q E N r K
 obtain⟨vs,rv,q⟩:=r
 match xs,K with
 | [x,y],K =>
  obtain⟨v,w,rfl,qx,qy⟩:=q.two_of
  cases x with
  | int i =>
   cases y with
   | int j =>
    cases (show v=.int i from qx)
    cases (show w=.int j from qy)
    exact Q7 (Jq8 (X:=X.wish E) hc) N.inv rv ⟨i,j,rfl,fin0 N K rfl⟩
   | _=>exact Zf K
  | _=>cases y<;>exact Zf K
 | [],K=>exact Zf K
 | [_],K=>exact Zf K
 | _::_::_::_,K=>exact Zf K
theorem J2v (hc:X.calm=Zg):Qi ce X (.builtin "min") (on2 minI):=by
 intro pj s σ H ι σi h xs us Q E N r K
 obtain⟨vs,rv,q⟩:=r
 match xs,K with
 | [x,y],K =>
  obtain⟨v,w,rfl,qx,qy⟩:=q.two_of
  cases x with
  | int i =>
   cases y with
   | int j =>
    cases (show v=.int i from qx)
    cases (show w=.int j from qy)
    exact Q7 (Jq9 (X:=X.wish E) hc) N.inv rv ⟨i,j,rfl,fin0 N K rfl⟩
   | _=>exact Zf K
  | _=>cases y<;>exact Zf K
 | [],K=>exact Zf K
 | [_],K=>exact Zf K
 | _::_::_::_,K=>exact Zf K
noncomputable def Qz:List IV->Option (List Str)
 | []=>Za []
 | .str x::r=>(Qz r).map (x:: ·)
 | _=>Zc
theorem Jny {K:W.Frag}{ι:List Zm}{H:Hp}:∀{xs:List IV}{zs:List Str}{vs:List V}{us:List Ze},Qz xs=Za zs->RVs K ι H xs vs->Vals vs us->∃l:List (Str×Tok),us=Ze5 l/\l.map (·.1)=zs
 | [],zs,vs,us,e,q,r=>by
  cases e
  have e1:vs=[]:=q
  subst e1
  cases r
  exact⟨[],rfl,rfl⟩
 | x::xs,zs,vs,us,e,q,r=>by
  obtain⟨v,vr,e1,q1,q2⟩:=q
  subst e1
  cases r with
  | cons r1 r2 =>
   cases x with
   | str y =>
    obtain⟨z2,e2,rfl⟩:=ZF.mp (show(Qz xs).map (y:: ·)=Za zs from e)
    cases (show v=.str y from q1)
    obtain⟨t,rfl⟩:=r1
    obtain⟨l,rfl,hl⟩:=Jny e2 q2 r2
    exact⟨(y,t)::l,rfl,by rw[Z4,hl]⟩
   | _=>cases e
def X6:IV->List IV->IH->Res IV
 | .str x,[.ref i],h=>match h[i]? with
  | some (.lst xs)=>(match Qz xs with
   | some zs=>if JoinOk x zs=Zg then .ok (.str (Txt.join x zs)) h else .stuck
   | none=>.stuck)
  | _=>.stuck
 | _,_,_=>.stuck
theorem J04:MtI ce X "str" "str.join" X6:=by
 intro pj s σ H ι σi h x xs v us Q E N rx rs K
 obtain⟨xv,rx,qx⟩:=rx
 obtain⟨vs,rv,qs⟩:=rs
 cases x with
 | str x =>
  cases (show xv=.str x from qx)
  obtain⟨t,rfl⟩:=rx
  match xs,K with
  | [.ref i],K =>
   obtain⟨w,rfl,a,rfl,ha⟩:=qs.one_of
   obtain⟨u,rfl,ru⟩:=Q0 rv
   cases ru
   dsimp only[X6] at K
   cases hi:h[i]? with
   | none=>rw[hi] at K;exact Zf K
   | some ob =>
    rw[hi] at K
    cases ob with
    | lst ys =>
     dsimp only at K
     cases hb:Qz ys with
     | none=>rw[hb] at K;exact Zf K
     | some zs =>
      rw[hb] at K
      dsimp only at K
      split at K
      ·rename_i hz
       obtain⟨ws,e1,r1⟩:=N.at hi ha
       obtain⟨its,rv',pl,_⟩:=N.inv.list (SqL.of e1)
       obtain⟨l,rfl,hl⟩:=Jny hb r1 rv'
       exact SC.join pl.isList hl hz λ t' k=>fin0 N K rfl _ _ (N.inv.tok _) ⟨_,rfl⟩
      ·exact Zf K
    | _=>exact Zf K
  | [],K=>exact Zf K
  | [.non],K=>exact Zf K
  | [.bl _],K=>exact Zf K
  | [.int _],K=>exact Zf K
  | [.str _],K=>exact Zf K
  | [.tup _],K=>exact Zf K
  | [.rol _],K=>exact Zf K
  | y::_::_,K=>cases y<;>exact Zf K
 | _=>exact Zf K
end
noncomputable def JP:List IV->Option (List Int)
 | []=>Za []
 | .int i::r=>(JP r).map (i:: ·)
 | _=>Zc
theorem V9 {K:W.Frag}{ι:List Zm}{H:Hp}:∀{xs:List IV}{ns:List Int}{vs:List V}{us:List Ze},JP xs=Za ns->RVs K ι H xs vs->Vals vs us->ZbA us ns
 | [],ns,vs,us,e,q,r=>by
  cases e
  have e1:vs=[]:=q
  subst e1
  cases r
  exact .nil
 | x::xs,ns,vs,us,e,q,r=>by
  obtain⟨v,vr,e1,q1,q2⟩:=q
  subst e1
  cases r with
  | cons r1 r2 =>
   cases x with
   | int i =>
    obtain⟨n2,e2,rfl⟩:=ZF.mp (show(JP xs).map (i:: ·)=Za ns from e)
    cases (show v=.int i from q1)
    obtain⟨t,rfl⟩:=r1
    exact .cons i t (V9 e2 q2 r2)
   | _=>cases e
theorem Yt:∀{us:List Ze}{ns:List Int},ZbA us ns->us.length=ns.length
 | _,_,.nil=>rfl
 | _,_,.cons _ _ r=>by simp[Yt r]
section
variable {ce:CeT}{X:Cx}
noncomputable def sumI:IV->IH->Res IV
 | .ref i,h=>match h[i]? with
  | some (.lst xs)=>(match JP xs with
   | some ns=>.ok (.int ns.sum) h
   | none=>.stuck)
  | _=>.stuck
 | _,_=>.stuck
theorem J2w (hh:X.A.handled=Zc):Qi ce X (.builtin "sum") (on1 sumI):=Vi λ pj s σ H ι σi h x xv u Q E N ru qx K=>by
 cases x with
 | ref i =>
  obtain⟨a,e1,ha⟩:=qx
  subst e1
  cases ru
  dsimp only[sumI] at K
  cases hi:h[i]? with
  | none=>rw[hi] at K;exact Zf K
  | some ob =>
   rw[hi] at K
   cases ob with
   | lst xs =>
    dsimp only at K
    cases hb:JP xs with
    | none=>rw[hb] at K;exact Zf K
    | some ns =>
     rw[hb] at K
     obtain⟨vs,e1,r1⟩:=N.at hi ha
     obtain⟨its,rv,pl,hz⟩:=N.inv.list (SqL.of e1)
     have are:=V9 hb r1 rv
     obtain⟨ys,hy⟩:=are.allInts.items
     have pl':s.heap.IsList a (intItems ys):=hy▸pl.isList
     refine sum_intListG hh pl' λ h2 tk t2 kk=>?_
     have en:ns=ys.toList.map (·.1):=by
      have q1:=are.numsOf
      have q2:=congrArg (λ z:Array Ze=>numsOf z.toList) hy
      simp only at q2
      rw[<- q1]
      exact q2.trans (nums_intItems ys)
     have es:preSum (numAt ys) ys.size=ns.sum:=by
      rw[preSum_eq,en,Zaz (by simp)]
     rw[es]
     exact fin0 N K rfl _ _ (N.inv.kept (t':=tk) kk) ⟨_,rfl⟩
   | _=>exact Zf K
 | _=>exact Zf K
end
def JS (f:Nat->Int):Nat->Int
 | 0=>0
 | 1=>f 0
 | j+2=>if f (j+1)>JS f (j+1) then f (j+1) else JS f (j+1)
theorem Jf6 (f:Nat->Int)(hj:0<j):JS f (j+1)=if f j>JS f j then f j else JS f j:=by
 cases j with
 | zero=>omega
 | succ j=>rfl
section
variable {pr:ZA}{wd:ZW}{B:ZO}{R:ZdG->Zl->Prop}{it:Zm}{fps wrs:List Zm}{n:Nat}{P:Nat->Ze->Prop}{St:Nat->Zas->Prop}
abbrev Jwq (v:Ze)(c:Nat):Obj:={ cls:=.type "list",dict:=Zc,data:=.seq #[v,v] c,slots:=#[] }
theorem Jj8:(toString "max"++toString ".loop":String)="max.loop":=by decide
theorem Jym {kw:List (Str×Ze)}(W:Walks pr wd B.in1 it fps wrs n P St)(f:Nat->Int)(hf:∀i v,P i v->∃t,v=.int (f i) t)(C:Zm)(hC:C∉fps) :
  ∀(r j:Nat)(z:Zl)(v:Ze)(u:Tok)(c:Nat),n-j=r->0<j->j<=n->St j z.heap->v=.int (JS f j) u->z.heap.get? C=Za (Jwq v c) ->
   (∀u h2 tk,(∀a o,a∉wrs->a≠C->z.heap.get? a=Za o->h2.get? a=Za o)->R (.ok (.ret (.int (JS f n) u))) { z with heap:=h2,toks:=tk }) ->
   Zc4 (Z8 pr wd) B (.builtin "max.loop" ⟨[.ref it,.none,.ref C],kw⟩) R z:=by
 have hw:C∉wrs:=λ q=>hC (W.sub _ q)
 intro r
 induction r with
 | zero =>
  intro j z v u c hr h0 hj st ev gC fin
  obtain rfl:j=n:=by omega
  subst ev
  refine Zar ZcB ?_
  rw[Zab ZaC _]
  show Zx _ B.in1 (Zcb (.ref C)>>=_) _ _ z
  refine Zd (Zbk gC rfl ?_)
  show Zx _ B.in1 (tryCatch (ZbU (.ref it)) _>>=_) _ _ z
  refine Zd (Zau (W.done z _ _ st λ h2 tk keep=>?_))
  have gC2:=keep C _ hw gC
  show Zx _ B.in1 (Zd8 C (λ _=>#[])>>=_) _ _ _
  refine Zd ?_
  refine Zba gC2 rfl (Zd (Zbb (Z0 ?_)))
  exact fin u _ tk λ a o ha hb e=>(Zw _ _ (ZQ hb)).trans (keep a o ha e)
 | succ r ih =>
  intro j z v u c hr h0 hj st ev gC fin
  have lt:j<n:=by omega
  subst ev
  refine Zar ZcB ?_
  rw[Zab ZaC _]
  show Zx _ B.in1 (Zcb (.ref C)>>=_) _ _ z
  refine Zd (Zbk gC rfl ?_)
  show Zx _ B.in1 (tryCatch (ZbU (.ref it)) _>>=_) _ _ z
  refine Zd (Zau (W.item j z _ _ lt st λ y h2 tk hP st2 keep=>?_))
  obtain⟨t,rfl⟩:=hf j y hP
  have gC2:=keep C _ hw gC
  have cmp:=CmpOf.ints_gt (prog:=pr) (w:=wd) (A:=B.in1) (P:=λ i v=>∃t,v=.int (if i=0 then f j else JS f j) t) (λ i=>if i=0 then f j else JS f j) (λ _ _ q=>q)
  show Zx _ B.in1 (tryCatch (ZbR [ZbQ (f j) t,ZbQ (f j) t] (Zcz .Gt (.int (f j) t) (.int (JS f j) u)>>=_)) _>>=_) _ _ _
  refine Zd (Zau (Zah (Zd (cmp 0 1 _ _ _ _ _ ⟨t,by simp⟩ ⟨u,by simp⟩ ?_))))
  refine Zd (Zah (ZaT ?_))
  refine Zd (Zbb (Z0 ?_))
  have step:=Jf6 f h0
  by_cases hb:f j>JS f j
  ·rw[if_pos hb] at step
   simp only[if_true,show ¬(1:Nat)=0 by decide,if_false,decide_eq_true hb]
   refine Zd ?_
   refine Zba gC2 rfl (Zd (Zbb ?_))
   rw[Jj8]
   refine Z0 ⟨Za4 ZaC _,ih (j+1) _ (.int (f j) t) t _ (by omega) (by omega) lt (W.frame _ _ _ st2 λ a ha o e=>?_) (by rw[step]) (Za5 _ gC2 rfl) λ u2 h3 tk3 k3=>?_⟩
   ·exact(Zw _ _ (λ q:C=a=>hC (by rw[q];exact ha))).trans e
   ·exact fin u2 h3 tk3 λ a o ha hc e=>k3 a o ha hc ((Zw _ _ (ZQ hc)).trans (keep a o ha e))
  ·rw[if_neg hb] at step
   simp only[if_true,show ¬(1:Nat)=0 by decide,if_false,decide_eq_false hb,Zaa]
   refine Zd (Zbb ?_)
   rw[Jj8]
   refine Z0 ⟨Za4 ZaC _,ih (j+1) _ (.int (JS f j) u) u c (by omega) (by omega) lt st2 (by rw[step]) gC2 λ u2 h3 tk3 k3=>?_⟩
   exact fin u2 h3 tk3 λ a o ha hc e=>k3 a o ha hc (keep a o ha e)
end
theorem Jqx (a v:Ze):Zeq "max" ⟨[a],[(Za0 "default",v)]⟩:=by unfold Zeq;kernel_rfl
section
variable {pr:ZA}{wd:ZW}{B:ZO}{E:QvT}{z:Zl}{l:Zm}{us:List Ze}{ns:List Int}{d:Option Ze}{Q:QvT}{kw:List (Str×Ze)}
def J2o (ns:List Int)(d:Option Ze)(v:Ze):Prop:=(ns=[]/\d=Za v)∨(ns≠[]/\∃u,v=.int (JS (λ i=>ns.getD i 0) ns.length) u)
theorem Jsi (hk:Za7 "max" ["key","default"] 0 ⟨[],kw⟩=pure [Zc,d])(ha:Zeq "max" ⟨[.ref l],kw⟩)(hn:ns=[]->∃v,d=Za v)(hh:B.handled=Zc)(hl:z.heap.IsList l us.toArray)(hi:ZbA us ns) 
  (hQ:∀v h2 tk,J2o ns d v->(∀b o,z.heap.get? b=Za o->h2.get? b=Za o)->Q v { z with heap:=h2,toks:=tk }) :
  Zx (Z8 pr wd) B (call (.builtin "max") [.ref l] kw) Q E z:=by
 obtain⟨ol,hol,_⟩:=id hl
 have lt:l<z.heap.objs.size:=Z1 hol
 have ll:=Yt hi
 refine kmk_tree PySem.F.kind_max PySem.F.plain_max PySem.F.entry_max ha ?_
 show Zx _ B.in1 (Za7 "max" ["key","default"] 0 ⟨[],kw⟩>>=_) _ _ z
 refine Zd (wpAny_of_eq hk ?_)
 refine Zd (Z0 ?_)
 refine Zd (ZaU hl ?_)
 refine Zd (Zcj ?_ (ZX _))
 rw[Jj8]
 have ne:l≠z.heap.objs.size:=Z5 lt
 have W:=ZcN (prog:=pr) (w:=wd) (A:=B.in1) hh z.heap.objs.size l ne us.toArray
 have sz:us.toArray.size=us.length:=Zu ..
 have hS:(z.heap.push { cls:=.type "list_iterator",data:=.fields #[.ref l,.int 0 0] }).objs.size=z.heap.objs.size+1:=ZdL ..
 have hC:(z.heap.push { cls:=.type "list_iterator",data:=.fields #[.ref l,.int 0 0] }).objs.size∉[z.heap.objs.size,l]:=by
  rw[hS]
  simp only[Z6,ZT,or_false,not_or]
  exact⟨ZaL (Za2 _),ZaL (Zb5 lt)⟩
 have hw:(z.heap.push { cls:=.type "list_iterator",data:=.fields #[.ref l,.int 0 0] }).objs.size∉[z.heap.objs.size]:=by
  rw[hS]
  simp only[Z6,ZT,or_false]
  exact ZaL (Za2 _)
 have old:∀b o,z.heap.get? b=Za o->((z.heap.push { cls:=.type "list_iterator",data:=.fields #[.ref l,.int 0 0] }).push (Zap "list" #[] 0)).get? b=Za o:=λ b o e=>Zh _ (Zh _ e)
 have gI:((z.heap.push { cls:=.type "list_iterator",data:=.fields #[.ref l,.int 0 0] }).push (Zap "list" #[] 0)).get? z.heap.objs.size=Za { cls:=.type "list_iterator",data:=.fields #[.ref l,.int 0 0] }:=Zh _ (Z2 _ rfl)
 have gC:((z.heap.push { cls:=.type "list_iterator",data:=.fields #[.ref l,.int 0 0] }).push (Zap "list" #[] 0)).get? (z.heap.push { cls:=.type "list_iterator",data:=.fields #[.ref l,.int 0 0] }).objs.size=Za (Zap "list" #[] 0):=Z2 _ rfl
 have notin:∀b o,z.heap.get? b=Za o->b∉[z.heap.objs.size]:=λ b o e q=>Z5 (Z1 e) (Zy.mp q)
 have notC:∀b o,z.heap.get? b=Za o->b≠(z.heap.push { cls:=.type "list_iterator",data:=.fields #[.ref l,.int 0 0] }).objs.size:=λ b o e=>by rw[hS];exact Z5 (Zb5 (Z1 e))
 refine Z0 ⟨Za4 ZaC _,Zar ZcB ?_⟩
 rw[Zab ZaC _]
 show Zx _ B.in1 (Zcb (.ref _)>>=_) _ _ _
 refine Zd (Zbk gC rfl ?_)
 show Zx _ B.in1 (tryCatch (ZbU (.ref z.heap.objs.size)) _>>=_) _ _ _
 by_cases h0:us.length=0
 ·refine Zd (Zau (W.done _ _ _ (by rw[sz,h0];exact⟨⟨_,gI,rfl,rfl⟩,(hl.push _).push _⟩) λ h2 tk keep=>?_))
  obtain⟨v,rfl⟩:=hn (ZaG (by omega))
  show Zx _ B.in1 (rule _>>=_) _ _ _
  refine Zd (Zer (Z0 ?_))
  refine hQ v h2 tk (.inl ⟨ZaG (by omega),rfl⟩) λ b o e=>keep b o (notin b o e) (old b o e)
 ·refine Zd (Zau (W.item 0 _ _ _ (by rw[sz];omega) ⟨⟨_,gI,rfl,rfl⟩,(hl.push _).push _⟩ λ y h2 tk hP st2 keep=>?_))
  have gC2:=keep _ _ hw gC
  show Zx _ B.in1 (Zd8 (z.heap.push { cls:=.type "list_iterator",data:=.fields #[.ref l,.int 0 0] }).objs.size (λ _=>#[y,y])>>=_) _ _ _
  refine Zd ?_
  refine Zba gC2 rfl ?_
  rw[Jj8]
  have hf:∀(i:Nat)(v:Ze),us.toArray[i]?=Za v->∃t,v=.int ((λ i=>ns.getD i 0) i) t:=λ i v q=>ZdY hi i v (by simpa using q)
  obtain⟨t,rfl⟩:=hf 0 y hP
  refine Z0 ⟨Za4 ZaC _,Jym W (λ i=>ns.getD i 0) hf _ hC _ 1 _ _ t _ rfl (by decide) (by rw[sz];omega) (W.frame _ _ _ st2 λ a ha o e=>?_) rfl (Za5 _ gC2 rfl) λ u h3 tk3 k3=>?_⟩
  ·exact(Zw _ _ (λ q=>hC (by rw[q];exact ha))).trans e
  ·rw[sz,ll]
   refine hQ _ h3 tk3 (.inr ⟨λ q=>h0 (by rw[ll,q];rfl),u,rfl⟩) λ b o e=>k3 b o (notin b o e) (notC b o e) ((Zw _ _ (ZQ (notC b o e))).trans (keep b o (notin b o e) (old b o e)))
end
section
variable {ce:CeT}{X:Cx}
def maxD (ns:List Int)(d:IV):IV:=if ns=[] then d else .int (JS (λ i=>ns.getD i 0) ns.length)
def Yn (aa:A1)(md:E1):E1:=λ σ h=>(aa σ h).bind λ xs h1=>(md σ h1).bind λ d h2=>match xs with
 | [.ref i]=>(match h2[i]? with
  | some (.lst ys)=>(match JP ys with
   | some ns=>.ok (maxD ns d) h2
   | none=>.stuck)
  | _=>.stuck)
 | _=>.stuck
theorem J0k {a de:Expr}{aa:A1}{md:E1}{p pos kp:Pos}(hh:X.A.handled=Zc)(hg:Gl X "max")(hm:X.mg "max"=Zc)(ha:PAi ce X [a] aa)(hd:PEi ce X de md)(hs:ZG [a] X.env=[(Zj,Zbe a X.env)]) :
  PEi ce X (.Call (.Name "max" p) [a] [⟨Za "default",de,kp⟩] pos) (Yn aa md):=λ pj s σ H ι σi h Q E N K=>by
 refine Zak (QG N.inv hg hm rfl ?_)
 refine callWith_kw ?_ (by rw[hs];rfl) (by rw[hs];rfl) rfl rfl
 refine(ha pos).run N K λ xs h1 us s1 H1 ι1 N1 n1 r1 K1=>?_
 refine Zb1 (Zd (PX.run hd N1 K1 λ d h2 du s2 H2 ι2 N2 n2 r2 K2=>Zd (Zb9 (Z0 (Zck ?_)))))
 obtain⟨vs,rv,qs⟩:=r1.mono n2
 match xs,K2 with
 | [.ref i],K2 =>
  obtain⟨w,rfl,ad,rfl,hav⟩:=qs.one_of
  obtain⟨u,rfl,ru⟩:=Q0 rv
  cases ru
  dsimp only at K2
  cases hi:h2[i]? with
  | none=>rw[hi] at K2;exact Zf K2
  | some ob =>
   rw[hi] at K2
   cases ob with
   | lst ys =>
    dsimp only at K2
    cases hb:JP ys with
    | none=>rw[hb] at K2;exact Zf K2
    | some ns =>
     rw[hb] at K2
     dsimp only at K2
     obtain⟨ws,e1,r3⟩:=N2.at hi hav
     obtain⟨its,rv2,pl,_⟩:=N2.inv.list (SqL.of e1)
     refine Jsi (d:=Za du) rfl (Jqx _ _) (λ _=>⟨_,rfl⟩) hh pl.isList (V9 hb r3 rv2) λ v h3 tk mi kk=>?_
     have N3:Now ce X pj ι2 σi h2 σ H2 { s2 with heap:=h3,toks:=tk }:=⟨N2.inv.kept (t':=tk) kk,N2.rel,N2.st⟩
     rcases mi with⟨e,ev⟩|⟨e,t,rfl⟩
     ·cases ev
      have em:maxD ns d=d:=if_pos e
      rw[em] at K2
      exact K2 _ _ _ _ N3 .refl r2
     ·have em:maxD ns d=.int (JS (λ i=>ns.getD i 0) ns.length):=if_neg e
      rw[em] at K2
      exact K2 _ _ _ _ N3 .refl ⟨.int _,⟨t,rfl⟩,rfl⟩
   | _=>exact Zf K2
 | [],K2=>exact Zf K2
 | [.non],K2=>exact Zf K2
 | [.bl _],K2=>exact Zf K2
 | [.int _],K2=>exact Zf K2
 | [.str _],K2=>exact Zf K2
 | [.tup _],K2=>exact Zf K2
 | [.rol _],K2=>exact Zf K2
 | x::_::_,K2=>cases x<;>exact Zf K2
end
def metB (f:Nat->Str)(i:Nat)(k:Str):Bool:=(ZN i).any λ j=>decide (k=f j)
def cntD (f:Nat->Str):Nat->Nat
 | 0=>0
 | i+1=>if metB f i (f i) then cntD f i else cntD f i+1
theorem Jsg (f:Nat->Str)(i:Nat)(k:Str):metB f (i+1) k=(metB f i k||decide (k=f i)):=by simp[metB,List.range_succ]
theorem Jm4 (f:Nat->Str):∀i,cntD f i<=i
 | 0=>Zo _
 | i+1=>by
  have:=Jm4 f i
  unfold cntD
  split<;>omega
section
variable {pr:ZA}{wd:ZW}{B:ZO}{R:ZdG->Zl->Prop}{it:Zm}{fps wrs:List Zm}{G:Array Zet->Array Zet->Prop}{n:Nat}{P:Nat->Ze->Prop}{St:Nat->Zl->Prop}
abbrev V3 (pr:ZA)(wd:ZW)(hp:Zas)(a:Zm)(f:Nat->Str)(i:Nat):Prop:=hp.SetOf (ZcQ pr wd) a (λ k=>metB f i k) (cntD f i)
theorem V3.moved {hp h2:Zas}(q:V3 pr wd hp a f i)(m:∀o,hp.get? a=Za o->h2.get? a=Za o):V3 pr wd h2 a f i:=by
 obtain⟨o,es,ep,t,ho,rest⟩:=q
 exact⟨o,es,ep,t,m o ho,rest⟩
theorem Ju4 (W:WalksS pr wd B.in1 it fps wrs G n P St)(C:Zm)(hC:C∉fps)(f:Nat->Str)(hf:∀i v,P i v->∃t,v=.str (f i) t)(room:n+1<Zcc) :
  ∀(r i:Nat)(z:Zl),n-i=r->i<=n->St i z->V3 pr wd z.heap C f i->(∀z2,Moved (C::wrs) G z z2->V3 pr wd z2.heap C f n->R (.ok (.ret .none)) z2) ->
   Zc4 (Z8 pr wd) B (.builtin "set.update.loop" ⟨[.ref C,.ref it],[]⟩) R z:=by
 have nw:C∉wrs:=λ q=>hC (W.sub _ q)
 have more:∀b∈wrs,b∈C::wrs:=λ b q=>Zp _ q
 intro r
 induction r with
 | zero =>
  intro i z hr hi st hS fin
  obtain rfl:i=n:=by omega
  refine Zar Zce ?_
  rw[Zab Zbq _]
  show Zx _ B.in1 (ZbU (.ref it)>>=_) _ _ z
  refine Zd (W.done z _ _ st λ z2 mv=>?_)
  show Zx _ B.in1 (ret ZV) _ _ z2
  exact Z0 (fin z2 (mv.mono more) (hS.moved λ o e=>mv.heap C _ nw e))
 | succ r ih =>
  intro i z hr hi st hS fin
  have lt:i<n:=by omega
  refine Zar Zce ?_
  rw[Zab Zbq _]
  show Zx _ B.in1 (ZbU (.ref it)>>=_) _ _ z
  refine Zd (W.item i z _ _ lt st λ v z2 hP st2 mv=>?_)
  obtain⟨t,rfl⟩:=hf i v hP
  have hS2:V3 pr wd z2.heap C f i:=hS.moved λ o e=>mv.heap C _ nw e
  have ki:(ZcQ pr wd).is (f i) (.str (f i) t)=Zg:=strKind_is _ _ _ _
  show Zx _ B.in1 (ZbR [Zec (f i) t] (setAdd C (.str (f i) t))>>=_) _ _ z2
  refine Zd (Zah ?_)
  unfold setAdd
  refine Zah ?_
  refine Zd ((ZcQ pr wd).pyHash (k:=f i) ki ?_)
  have rm:cntD f i+1<Zcc:=by have:=Jm4 f i;omega
  refine wpAny_setAddHashed_of (knd:=ZcQ pr wd) (s:={ z2 with toks:=z2.toks+1 }) ki rfl hS2 rm λ h3 sb hS3=>?_
  have hS4:V3 pr wd h3 C f (i+1):=SetOf_congr hS3 (λ k=>(Jsg f i k).symm) (by show _=cntD f (i+1);rfl)
  refine Z0 ⟨Za4 Zbq _,ih (i+1) _ (by omega) lt (W.frame _ z2 _ _ st2 (ZaZ _) λ b q o e=>?_) hS4 λ z5 m5 hS5=>?_⟩
  ·rw[sb.2 b (λ e2:b=C=>hC (by rw[<- e2];exact q))];exact e
  ·refine fin z5 (Moved.trans W.gtrans ((mv.mono more).then_heap (ZaZ _) λ b o q e=>?_) m5) hS5
   rw[sb.2 b (λ e2:b=C=>q (by rw[e2];exact Z7))];exact e
end
section
variable {pr:ZA}{wd:ZW}{B:ZO}{E:QvT}{z:Zl}{l:Zm}{us:List Ze}{zs:List Str}{Q:QvT}
abbrev QV (led:Bool):Obj:={ cls:=.type "set",dict:=Zc,data:=.set #[] 0 (.fresh 0 0 led) }
abbrev QM (zs:List Str):Nat->Str:=λ i=>zs.getD i Str.empty
set_option maxRecDepth 100000 in
theorem Ju2 {l2:List (Str×Tok)}(hh:B.handled=Zc)(hl:z.heap.IsList l us.toArray)(eu:us=Ze5 l2)(ez:l2.map (·.1)=zs)(room:zs.length+1<Zcc)
  (fin:∀(h2:Zas)(tk:Nat),V3 pr wd h2 z.heap.objs.size (QM zs) zs.length->(∀b o,z.heap.get? b=Za o->h2.get? b=Za o)->Q (.ref z.heap.objs.size) { z with heap:=h2,toks:=tk }) :
  Zx (Z8 pr wd) B (call (.type "set") [.ref l]) Q E z:=by
 have len:us.toArray.size=zs.length:=by rw[eu,<-ez];simp[Ze5]
 have vals:∀(i:Nat)(v:Ze),us.toArray[i]?=Za v->∃t,v=.str (QM zs i) t:=λ i v q=>by
  rw[eu] at q
  simp only[Ze5,ZdR,Zv] at q
  obtain⟨p,hp,rfl⟩:=ZF.mp q
  refine⟨p.2,?_⟩
  rw[<- ez]
  simp[QM,Zk,Zv,hp]
 obtain⟨c,tl,hmro⟩:=PySem.F.called_set.mro
 have hmade:=PySem.F.called_set.made
 have hsub:=PySem.F.called_set.sub
 refine Zep (codeAny_of_tree ?_)
 show Zx _ _ (callAny (.type "set") _) _ _ _
 refine Z0 ⟨Code.quiet_builtin _ (by decide +kernel),Zar PySem.F.entry_type_call ?_⟩
 rw[Around.under_plain (weight_type_call_type "set" [.ref l] []) rfl]
 have no1:=PySem.F.called_set.notType
 have no2:=PySem.F.called_set.canCreate
 have ok1:=PySem.F.typeCall_set_1 (.ref l)
 repeat (any_goals (first|assumption|wp_step))
 refine Zc9 (code_set_new_1 (.ref l) (E:=E) (Q₁:=λ obj z1=>∃led:Bool,obj=.ref z.heap.objs.size/\z1={ z with heap:=z.heap.push (QV led) }) λ led=>⟨led,rfl,rfl⟩) λ res z1 hr=>?_
 cases res with
 | error e=>exact hr
 | ok fl =>
  cases fl with
  | ret obj =>
   obtain⟨led,rfl,rfl⟩:=hr
   have gS:(z.heap.push (QV led)).get? z.heap.objs.size=Za (QV led):=Z2 _ rfl
   have tS:Shared.TypeIs { z with heap:=z.heap.push (QV led) } (.ref z.heap.objs.size) "set":=⟨_,gS,rfl⟩
   have in1:=PySem.F.called_set.init.lookup
   have in2:=PySem.F.called_set.init.bind (.ref z.heap.objs.size)
   repeat (any_goals (first|assumption|wp_step))
   refine Zc9 (codeAny_call_builtin (R:=wants (λ res z2=>res=.none/\∃h2 tk,z2={ z with heap:=h2,toks:=tk }/\V3 pr wd h2 z.heap.objs.size (QM zs) zs.length/\(∀b o,z.heap.get? b=Za o->h2.get? b=Za o)) E)
    PySem.F.called_set.init.plain PySem.F.entry_set_init (check_set_init_1 tS ?_)) λ res2 z2 hr2=>?_
   ·obtain⟨ol,hol,hcl,nl,hdl⟩:=hl
    obtain⟨ocls,odict,odata,oslots⟩:=ol
    simp only at hcl hdl
    subst hcl;subst hdl
    have gl:(z.heap.push (QV led)).get? l=Za { cls:=.type "list",dict:=odict,data:=.seq us.toArray nl,slots:=oslots }:=Zh _ hol
    have sb1:=PySem.F.sub_list_set
    have sb2:=PySem.F.sub_list_frozenset
    have dne:(Zem "list"==Zem "dict")=Zj:=by decide
    have hl1:(z.heap.push (QV led)).IsList l us.toArray:=⟨_,gl,rfl,nl,rfl⟩
    unfold Ze0.«set.__init__» noKeywords Builtin.Frozenset.updateFrom
    generalize hPI:Zen=PI
    wp_walk
    subst hPI
    refine ZaU hl1 ?_
    refine Zd (wpAny_runValue ?_)
    have lS:l<z.heap.objs.size:=Z1 hol
    have h3:B.in1.in1.in1.handled=Zc:=by simp[hh]
    have neI:l≠(z.heap.push (QV led)).objs.size:=by rw[Zc5];exact Z5 (Zb5 lS)
    have nC:z.heap.objs.size∉[(z.heap.push (QV led)).objs.size,l]:=by
     rw[Zc5]
     simp only[Z6,ZT,or_false,not_or]
     exact⟨Z5 (Za2 _),ZaL lS⟩
    refine Ju4 ((ZcN h3 _ l neI us.toArray).toS) z.heap.objs.size nC (QM zs) vals (by rw[len];exact room) (us.toArray.size-0) 0 _ (by omega) (ZX _) ⟨⟨_,Z2 _ rfl,rfl,rfl⟩,(hl1.push _)⟩ ?start ?stop
    case start =>
     have g0:((z.heap.push (QV led)).push { cls:=.type "list_iterator",data:=.fields #[.ref l,.int 0 0] }).get? z.heap.objs.size=Za (QV led):=Zh _ gS
     exact SetOf_congr ((setObjOf_fresh (knd:=ZcQ pr wd) led).setOf g0 (by unfold Zcc;omega)) (λ _=>rfl) rfl
    case stop =>
     intro z5 mv hS5
     obtain⟨h5,g5,d5,tk5,os5⟩:=z5
     have eg:g5=z.gens:=mv.gens
     have ed:d5=z.drawn:=mv.drawn
     have eo:os5=z.os:=mv.os
     subst eg;subst ed;subst eo
     show Zx _ _ _ _ _ _
     refine Z0 ?_
     show Zx _ _ (ret ZV) _ _ _
     rw[len] at hS5
     refine Z0 ⟨rfl,h5,tk5,rfl,hS5,λ b o e=>?_⟩
     have lb:=Z1 e
     have b1:b≠z.heap.objs.size:=Z5 lb
     have b2:b≠(z.heap.push (QV led)).objs.size:=by rw[Zc5];exact Z5 (Zb5 lb)
     exact mv.heap b o (by simp only[Z6,ZT,or_false,not_or];exact⟨b1,b2⟩) (Zh _ (Zh _ e))
   ·cases res2 with
    | error e=>exact hr2
    | ok fl2 =>
     cases fl2 with
     | ret rv =>
      obtain⟨rfl,h2,tk,rfl,hS2,keep⟩:=hr2
      repeat (any_goals (first|assumption|wp_step))
      exact fin _ _ hS2 keep
     | _=>exact hr2.elim
  | _=>exact hr.elim
end
section
variable {ce:CeT}{X:Cx}
def Ym (aa:A1):E1:=λ σ h=>(aa σ h).bind λ xs h1=>match xs with
 | [.ref i]=>(match h1[i]? with
  | some (.lst ys)=>(match Qz ys with
   | some zs=>if zs.length+1<Zcc then .ok (.int (cntD (QM zs) zs.length)) h1 else .stuck
   | none=>.stuck)
  | _=>.stuck)
 | _=>.stuck
theorem Jt7 {a:Expr}{aa:A1}{p pos p2 pos2:Pos}(hh:X.A.handled=Zc)(g1:Gl X "len")(m1:X.mg "len"=Zc)(g2:Gl X "set")(m2:X.mg "set"=Zc)(ha:PAi ce X [a] aa)(hs:ZG [a] X.env=[(Zj,Zbe a X.env)]) :
  PEi ce X (.Call (.Name "len" p) [.Call (.Name "set" p2) [a] [] pos2] [] pos) (Ym aa):=λ pj s σ H ι σi h Q E N K=>by
 refine Zak (QG N.inv g1 m1 rfl ?_)
 refine ZbE ?_ rfl rfl
 refine Zdr ?_
 refine Zak (QG N.inv g2 m2 rfl ?_)
 refine ZaR ?_ hs rfl
 refine(ha pos2).run N K λ xs h1 us s1 H1 ι1 N1 n1 r1 K1=>?_
 obtain⟨vs,rv,qs⟩:=r1
 match xs,K1 with
 | [.ref i],K1 =>
  obtain⟨w,rfl,ad,rfl,hav⟩:=qs.one_of
  obtain⟨u,rfl,ru⟩:=Q0 rv
  cases ru
  dsimp only at K1
  cases hi:h1[i]? with
  | none=>rw[hi] at K1;exact Zf K1
  | some ob =>
   rw[hi] at K1
   cases ob with
   | lst ys =>
    dsimp only at K1
    cases hb:Qz ys with
    | none=>rw[hb] at K1;exact Zf K1
    | some zs =>
     rw[hb] at K1
     dsimp only at K1
     split at K1
     ·rename_i room
      obtain⟨ws,e1,r3⟩:=N1.at hi hav
      obtain⟨its,rv2,pl,_⟩:=N1.inv.list (SqL.of e1)
      obtain⟨l2,eu,ez⟩:=Jny hb r3 rv2
      refine Ju2 hh pl.isList eu ez room λ h2 tk hS keep=>Zds ?_
      obtain⟨o,es,ep,t,ho,hex,hd,hel,hmem,hbb,hf,hn⟩:=hS
      have fit:(es.size:Int)<2^63:=by
       have:=Jm4 (QM zs) zs.length
       have sb:Zcc<=2^40:=by unfold Zcc;decide
       omega
      refine call_len_set ho hex hd hf fit ?_
      rw[hn]
      exact K1 _ _ _ _ ⟨(N1.inv.kept (t':=_) keep),N1.rel,N1.st⟩ .refl ⟨.int _,⟨_,rfl⟩,rfl⟩
     ·exact Zf K1
   | _=>exact Zf K1
 | [],K1=>exact Zf K1
 | [.non],K1=>exact Zf K1
 | [.bl _],K1=>exact Zf K1
 | [.int _],K1=>exact Zf K1
 | [.str _],K1=>exact Zf K1
 | [.tup _],K1=>exact Zf K1
 | [.rol _],K1=>exact Zf K1
 | x::_::_,K1=>cases x<;>exact Zf K1
end
section
variable {α β:Type}{h h1:IH}{σ:ISt}
theorem Yp (v:IV)(σ:ISt):Ja 0 (Za v::σ) h=.ok v h:=rfl
theorem Jty (n:Nat)(x:Option IV)(σ:ISt):Ja (n+1) (x::σ) h=Ja n σ h:=rfl
end
def MulS (x:Str)(n:Int):Bool:=decide (x.length<=1000/\ -1000<=n/\n<=1000)
theorem MulS.ok (h:MulS x n=Zg):MulOk x n:=by
 simp only[MulS,decide_eq_true_eq] at h
 obtain⟨h1,h2,h3⟩:=h
 refine⟨?_,λ hn _=>?_,λ hn _=>?_⟩
 ·simp only[ZcR,decide_eq_false_iff_not]
  omega
 ·have e:(1000:Int)<=(2^63-1)/n:=by
   rw[Int.le_ediv_iff_mul_le (by omega)]
   have:(1000:Int)*n<=1000*1000:=Zbl h3 (by decide)
   omega
  omega
 ·have:x.length*n.toNat<=1000*1000:=Nat.mul_le_mul h1 (by omega)
  have hb:1000000<sizeLine:=by decide
  unfold Builtin.Str.tooLong
  simp only[decide_eq_false_iff_not]
  omega
theorem Jys:OpR X (ZaQ .Mult) (λ x y H Q=>∃i j,x=.str i/\y=.int j/\MulS i j=Zg/\Q (.str (Txt.mul i j)) H):=by
 intro pj s σ H x y v u Q I rx ry h
 obtain⟨i,j,rfl,rfl,hz,q⟩:=h
 obtain⟨t,rfl⟩:=rx
 obtain⟨t',rfl⟩:=ry
 exact SB.mul (MulS.ok hz) λ t' tk=>⟨.str (Txt.mul i j),H,I.tok _,⟨_,rfl⟩,q⟩
def Qy (x y:IV)(h:IH):Res IV:=match x with
 | .str i=>(match y with
  | .int j=>if MulS i j then .ok (.str (Txt.mul i j)) h else .stuck
  | _=>.stuck)
 | x=>XE x y h
section
variable {ce:CeT}{X:Cx}
theorem J1d:OpI ce X (ZaQ .Mult) Qy:=by
 intro pj s σ H ι σi h x y v u Q E N rx ry K
 cases x with
 | str i =>
  obtain⟨xv,rx,qx⟩:=rx
  obtain⟨yv,ry,qy⟩:=ry
  cases y with
  | int j =>
   have e1:xv=.str i:=qx
   have e2:yv=.int j:=qy
   subst e1 e2
   dsimp only[Qy] at K
   split at K
   ·rename_i hz
    exact Qe (Jys (X:=X.wish E)) N.inv rx ry ⟨i,j,rfl,rfl,hz,fin0 N K rfl⟩
   ·exact Zf K
  | _=>exact Zf K
 | _=>exact J3p pj s σ H ι σi h _ y v u Q E N rx ry K
end
noncomputable def valI (kvs:List (Key×IV))(k:Key):Option IV:=(kvs.find? λ kv=>decide (kv.1=k)).map (·.2)
theorem QO {p:Key×IV}(e:p.1=k):valI (p::r) k=Za p.2:=by simp[valI,ZbO,e]
theorem Q8 {p:Key×IV}(e:¬p.1=k):valI (p::r) k=valI r k:=by simp[valI,ZbO,e]
theorem RPs.get {K:W.Frag}{ι:List Zm}{H:Hp}(k:Key):∀{xs:List (Key×IV)}{vs:List (Key×V)},RPs K ι H xs vs->(valI xs k=Zc/\valV vs k=Zc)∨∃v w,valI xs k=Za v/\valV vs k=Za w/\RV K ι H v w
 | [],_,h=>by
  have e:_=[]:=h
  subst e
  exact .inl ⟨rfl,rfl⟩
 | x::xs,_,h=>by
  obtain⟨v,r,rfl,q,t⟩:=h
  by_cases e:x.1=k
  ·exact .inr ⟨x.2,v,QO e,Jkp e,q⟩
  ·rw[Q8 e,Jko e]
   exact RPs.get k t
theorem RPs.snoc {K:W.Frag}{ι:List Zm}{H:Hp}{k:Key}{v:IV}{w:V}(q:RV K ι H v w):∀{xs:List (Key×IV)}{vs:List (Key×V)},RPs K ι H xs vs->RPs K ι H (xs++[(k,v)]) (vs++[(k,w)])
 | [],_,h=>by
  have e:_=[]:=h
  subst e
  exact⟨w,[],rfl,q,rfl⟩
 | x::xs,_,h=>by
  obtain⟨v',r,rfl,q',t⟩:=h
  exact⟨v',r++[(k,w)],rfl,q',RPs.snoc q t⟩
theorem Jka {vs:List (Key×V)}{k:Key}{w:V}(e:valV vs k=Zc):putK vs k w=vs++[(k,w)]:=by
 unfold putK
 rw[if_neg]
 rw[Jkn,e]
 exact Zs
section
variable {ce:CeT}{X:Cx}
def Xl:E1:=λ _ h=>.ok (.ref h.length) (h++[.dct []])
theorem J0g:PEi ce X (.Dict [] [] pos) Xl:=λ pj s σ H ι σi h Q E N K=>by
 have hn:=N.inv.hok.fresh (Zo s.heap.objs.size)
 have I1:=N.inv.laid (a:=s.heap.objs.size) (o:=.dK []) (h':=s.heap.push { cls:=.type "dict",data:=.dict #[] }) (t':=s.toks) (λ _ _ q=>Zh _ q) (Zo _) (Jtu s.heap N.inv.big)
 obtain⟨R1,n1⟩:=N.rel.alloc (o:=.dK []) (io:=.dct []) hn ⟨[],J7,rfl⟩
 have N1:Now ce X pj (ι++[s.heap.objs.size]) σi (h++[.dct []]) σ (upd H s.heap.objs.size (.dK [])) _:=⟨I1,R1,N.st.mono n1⟩
 have h0:(ι++[s.heap.objs.size])[h.length]?=Za s.heap.objs.size:=by rw[<- N.rel.len,Z9 (Zo _)];simp
 exact wpAny_Dict_empty (K _ _ _ (ι++[s.heap.objs.size]) N1 n1 ⟨.ref _,rfl,_,rfl,h0⟩)
def Xa:IV->List IV->IH->Res IV
 | .ref i,[y,v],h=>match h[i]? with
  | some (.dct kvs)=>(match keyI y with
   | some k=>(match valI kvs k with
    | some w=>.ok w h
    | none=>if kvs.length<sizeLine then .ok v (h.set i (.dct (kvs++[(k,v)]))) else .stuck)
   | none=>.stuck)
  | _=>.stuck
 | _,_,_=>.stuck
theorem Jun:MtI ce X "dict" "dict.setdefault" Xa:=by
 intro pj s σ H ι σi h x xs v us Q E N rx rs K
 obtain⟨xv,rx,qx⟩:=rx
 obtain⟨vs,rv,qs⟩:=rs
 cases x with
 | ref i =>
  match xs,K with
  | [y,y2],K =>
   obtain⟨a,rfl,ha⟩:=qx
   obtain⟨w,w2,rfl,qw,qw2⟩:=qs.two_of
   dsimp only[Xa] at K
   cases hi:h[i]? with
   | none=>rw[hi] at K;exact Zf K
   | some ob =>
    rw[hi] at K
    cases ob with
    | dct kvs =>
     dsimp only at K
     cases ek:keyI y with
     | none=>rw[ek] at K;exact Zf K
     | some k =>
      rw[ek] at K
      dsimp only at K
      obtain⟨ws,e1,r1⟩:=N.at hi ha
      cases Jgy ek qw
      cases rv with
      | @cons _ _ _ _ ru t =>
      cases t with
      | @cons _ u2 _ _ ru2 t =>
      cases t
      cases (show v=.ref a from rx)
      obtain⟨z,hd,ps,rel,dd⟩:=Jtv N.inv.hok e1
      have hz:ps.length<=sizeLine:=by rw[<- rel.length];exact z
      refine call_meetsIn ZcY dd.typeIs PySem.F.entry_dict_setdefault (PySem.F.args_dict_setdefault_3 _ _ _) (kt_meets_setdefault (Vp X.prog X.w) a (Jui ru) hd u2) ⟨ps,dd,hz,λ v' hv=>?_,λ hn h' dd' hs=>?_⟩
      ·rcases r1.get k with⟨p,q⟩|⟨v1,w1,p,q,r⟩
       ·have rr:=rel.val k
        rw[q] at rr
        rw[RelO.none_of rr] at hv
        cases hv
       ·rw[p] at K
        have rr:=rel.val k
        rw[q,hv] at rr
        exact fin0 (w:=w1) N K r _ _ (N.inv.tok _) rr
      ·rcases r1.get k with⟨p,q⟩|⟨v1,w1,p,q,r⟩
       ·rw[p] at K
        dsimp only at K
        split at K
        ·rename_i hl
         have he:∃q,h'.get? a=Za q:=let ⟨q,_,_,hq,_⟩:=dd';⟨q,hq⟩
         have hlen:(putK ws k w2).length<=sizeLine:=by rw[Jka q,Zt,r1.length];exact hl
         have I4:=Jrb (t':=s.toks+1) N.inv (by rw[e1];exact Zaq) hs he (Jv9 hlen hd (rel.put k ru2) dd')
         have n:Nxt ι H ι (upd H a (.dK (putK ws k w2))):=⟨⟨[],by simp⟩,Ext.upd_mut e1 (by rw[e1];exact Zaq)⟩
         obtain⟨R4,_⟩:=N.rel.write (o:=.dK (putK ws k w2)) (io:=.dct (kvs++[(k,y2)])) ha e1 (by rw[e1];exact Zaq) ⟨_,J7,(congrArg (λ P=>RPs X.K ι (upd H a (.dK (putK ws k w2))) (kvs++[(k,y2)]) P) (Jka q)).mpr (RPs.mono n _ _ (r1.snoc qw2))⟩
         exact K _ _ _ ι ⟨I4,R4,N.st.mono n⟩ n ⟨w2,ru2,RV.mono n _ _ qw2⟩
        ·exact Zf K
       ·have rr:=rel.val k
        rw[q,hn] at rr
        exact Zf rr
    | _=>exact Zf K
  | [],K=>exact Zf K
  | [_],K=>exact Zf K
  | _::_::_::_,K=>exact Zf K
 | _=>cases xs<;>exact Zf K
end
noncomputable def putD (kvs:List (Key×IV))(k:Key)(v:IV):List (Key×IV) :=
 if (kvs.any λ kv=>decide (kv.1=k))=Zg then kvs.map (λ kv=>if kv.1=k then(kv.1,v) else kv) else kvs++[(k,v)]
theorem RPs.any {K:W.Frag}{ι:List Zm}{H:Hp}(k:Key):∀{xs:List (Key×IV)}{vs:List (Key×V)},RPs K ι H xs vs->(xs.any λ kv=>decide (kv.1=k))=vs.any λ kv=>decide (kv.1=k)
 | [],_,h=>by
  have e:_=[]:=h
  subst e
  rfl
 | x::xs,_,h=>by
  obtain⟨v,r,rfl,q,t⟩:=h
  rw[Zch,Zch,RPs.any k t]
theorem RPs.upd {K:W.Frag}{ι:List Zm}{H:Hp}{k:Key}{v:IV}{w:V}(q:RV K ι H v w):∀{xs:List (Key×IV)}{vs:List (Key×V)},RPs K ι H xs vs->RPs K ι H (xs.map λ kv=>if kv.1=k then(kv.1,v) else kv) (vs.map λ kv=>if kv.1=k then(kv.1,w) else kv)
 | [],_,h=>by
  have e:_=[]:=h
  subst e
  exact rfl
 | x::xs,_,h=>by
  obtain⟨v',r,rfl,q',t⟩:=h
  rw[Z4,Z4]
  by_cases e:x.1=k
  ·rw[if_pos e,if_pos e]
   exact⟨w,_,rfl,q,RPs.upd q t⟩
  ·rw[if_neg e,if_neg e]
   exact⟨v',_,rfl,q',RPs.upd q t⟩
theorem RPs.putKK {K:W.Frag}{ι:List Zm}{H:Hp}{k:Key}{v:IV}{w:V}{xs:List (Key×IV)}{vs:List (Key×V)}(q:RV K ι H v w)(r:RPs K ι H xs vs):RPs K ι H (putD xs k v) (putK vs k w):=by
 unfold putD putK
 rw[r.any k]
 split
 ·exact r.upd q
 ·exact r.snoc q
section
variable {ce:CeT}{X:Cx}
def QI (x y:IV)(h:IH):Res IV:=match x with
 | .ref i=>(match h[i]? with
  | some (.dct kvs)=>(match keyI y with
   | some k=>(match valI kvs k with
    | some v=>.ok v h
    | none=>.stuck)
   | none=>.stuck)
  | _=>.stuck)
 | _=>.stuck
theorem J4k:IxI ce X QI:=by
 intro value slice pj s σ H ι σi h x y v u Q E N rx ry K hs
 obtain⟨xv,rx,qx⟩:=rx
 obtain⟨yv,ry,qy⟩:=ry
 cases x with
 | ref i =>
  obtain⟨a,e1,ha⟩:=qx
  subst e1
  dsimp only[QI] at K
  cases hi:h[i]? with
  | none=>rw[hi] at K;exact Zf K
  | some ob =>
   rw[hi] at K
   cases ob with
   | dct kvs =>
    dsimp only at K
    cases ek:keyI y with
    | none=>rw[ek] at K;exact Zf K
    | some k =>
     rw[ek] at K
     dsimp only at K
     obtain⟨ws,e1,r1⟩:=N.at hi ha
     cases Jgy ek qy
     cases (show v=.ref a from rx)
     obtain⟨z,hd,ps,rel,dd⟩:=Jtv N.inv.hok e1
     rcases r1.get k with⟨p,q⟩|⟨v1,w1,p,q,r⟩
     ·rw[p] at K;exact Zf K
     ·rw[p] at K
      have rr:=rel.val k
      rw[q] at rr
      obtain⟨w',hw,rw'⟩:=RelO.some_of rr
      exact Zc8 (x:=w') dd.typeIs PySem.F.slot_dict_getitem.lookup (wpAny_getItem_of (Q:=λ r s'=>r=w'/\Q r s') (Jui ry) dd.mapOf hw ⟨rfl,fin0 N K r _ _ (N.inv.tok _) rw'⟩) hs
   | _=>exact Zf K
 | _=>exact Zf K
noncomputable def cInD (x c:IV)(h:IH):Res IV:=match c with
 | .ref i=>(match h[i]? with
  | some (.dct kvs)=>(match keyI x with
   | some k=>.ok (.bl (valI kvs k).isSome) h
   | none=>.stuck)
  | _=>.stuck)
 | _=>.stuck
theorem J3m:OpI ce X (Zav .In) cInD:=by
 intro pj s σ H ι σi h x y v u Q E N rx ry K
 obtain⟨xv,rx,qx⟩:=rx
 obtain⟨yv,ry,qy⟩:=ry
 cases y with
 | ref i =>
  obtain⟨a,e1,ha⟩:=qy
  subst e1
  dsimp only[cInD] at K
  cases hi:h[i]? with
  | none=>rw[hi] at K;exact Zf K
  | some ob =>
   rw[hi] at K
   cases ob with
   | dct kvs =>
    dsimp only at K
    cases ek:keyI x with
    | none=>rw[ek] at K;exact Zf K
    | some k =>
     rw[ek] at K
     dsimp only at K
     obtain⟨ws,e1,r1⟩:=N.at hi ha
     cases Jgy ek qx
     cases (show u=.ref a from ry)
     obtain⟨z,hd,ps,rel,dd⟩:=Jtv N.inv.hok e1
     refine wpAny_in_of (Jui rx) hd dd.mapOf ?_
     rw[<- (rel.val k).isSome_eq]
     have es:(valV ws k).isSome=(valI kvs k).isSome:=by
      rcases r1.get k with⟨p,q⟩|⟨v1,w1,p,q,r⟩<;>rw[p,q]<;>rfl
     rw[es]
     exact fin0 N K rfl _ _ (N.inv.tok _) rfl
   | _=>exact Zf K
 | _=>exact Zf K
def Y3:IV->IV->IV->ISt->IH->SRes
 | .ref i,iv,v,σ,h=>match h[i]? with
  | some (.dct kvs)=>(match keyI iv with
   | some k=>if kvs.length<sizeLine then .next σ (h.set i (.dct (putD kvs k v))) else .stuck
   | none=>.stuck)
  | _=>.stuck
 | _,_,_,_,_=>.stuck
def gSbD (o i:E1):G1:=λ v σ h=>rS σ (o σ h) λ ov h1=>rS σ (i σ h1) λ iv h2=>Y3 ov iv v σ h2
theorem Jz8 {oe ie:Expr}{mo mi:E1}{pos:Pos}(ho:PEi ce X oe mo)(hi:PEi ce X ie mi)
  (ha:∀v,ZdJ (.Subscript oe ie pos) X.env v=(do
   let ov<-ZbR [v] (Zbe oe X.env)
   let iv<-ZbR [v,ov] (Zbe ie X.env)
   Zez pos
   ZbR [v,ov,iv] (setItem ov iv v)
   release [v,ov,iv] [])):PGi ce X (.Subscript oe ie pos) (gSbD mo mi):=by
 intro pj s σ H ι σi h v u Q E N r K
 rw[ha]
 refine Zd (Zah (krun ho N K λ ov h1 ou s1 H1 ι1 N1 n1 r1 K1=>?_))
 refine Zd (Zah (krun hi N1 K1 λ iv h2 iu s2 H2 ι2 N2 n2 r2 K2=>?_))
 have r':RU X.K ι2 H2 v u:=(r.mono n1).mono n2
 obtain⟨ox,ro,qo⟩:=r1.mono n2
 obtain⟨ix,ri,qi⟩:=r2
 obtain⟨vx,rvx,qv⟩:=r'
 refine Zd (Zb9 (Zd (Zah ?_)))
 cases ov with
 | ref i =>
  obtain⟨a,rfl,haa⟩:=qo
  dsimp only[Y3] at K2
  cases hh:h2[i]? with
  | none=>rw[hh] at K2;exact Zf K2
  | some ob =>
   rw[hh] at K2
   cases ob with
   | dct kvs =>
    dsimp only at K2
    cases ek:keyI iv with
    | none=>rw[ek] at K2;exact Zf K2
    | some k =>
     rw[ek] at K2
     dsimp only at K2
     split at K2
     ·rename_i hl
      obtain⟨ws,e1,r1'⟩:=N2.at hh haa
      cases Jgy ek qi
      cases (show ou=.ref a from ro)
      obtain⟨z,hd,ps,rel,dd⟩:=Jtv N2.inv.hok e1
      have hz:ps.length<=sizeLine:=by rw[<- rel.length];exact z
      have hlen:(putK ws k vx).length<=sizeLine:=by
       have h1:=Jng ws k vx
       have h2:=r1'.length
       omega
      refine wpAny_setItem_pairs (hsz:=hz) (Jui ri) dd λ h' dd' hs=>?_
      have he:∃q,h'.get? a=Za q:=let ⟨q,_,_,hq,_⟩:=dd';⟨q,hq⟩
      have I4:=Jrb (t':=s2.toks+1) N2.inv (by rw[e1];exact Zaq) hs he (Jv9 hlen hd (rel.put k rvx) dd')
      have n:Nxt ι2 H2 ι2 (upd H2 a (.dK (putK ws k vx))):=⟨⟨[],by simp⟩,Ext.upd_mut e1 (by rw[e1];exact Zaq)⟩
      obtain⟨R3,_⟩:=N2.rel.write (o:=.dK (putK ws k vx)) (io:=.dct (putD kvs k v)) haa e1 (by rw[e1];exact Zaq) ⟨_,J7,RPs.putKK (RV.mono n _ _ qv) (RPs.mono n _ _ r1')⟩
      exact wpAny_release (K2 _ σ _ ι2 ⟨I4,R3,N2.st.mono n⟩ n)
     ·exact Zf K2
   | _=>exact Zf K2
 | _=>exact Zf K2
end
def leZ (a b:Int):Bool:=decide (a<=b)
def QX (ns:List Int):List Int:=ns.mergeSort leZ
theorem Jow (ns:List Int):(QX ns).Pairwise (· <= ·):=by
 have:=List.pairwise_mergeSort (le:=leZ) (λ a b c h1 h2=>by simp only[leZ,decide_eq_true_eq] at *;omega) (λ a b=>by simp only[leZ,Za1,decide_eq_true_eq];omega) ns
 exact this.imp λ h=>by simpa [leZ] using h
theorem Jve {ns ns':List Int}(p:ns'.Perm ns)(s:ns'.Pairwise (· <= ·)):ns'=QX ns :=
 List.Perm.eq_of_pairwise (le:=(· <= ·)) (λ a b _ _ h1 h2=>Int.le_antisymm h1 h2) s (Jow ns) (p.trans (List.mergeSort_perm ns leZ).symm)
theorem XY:∀{us:List Ze}{ns:List Int},ZbA us ns->Vals (ns.map V.int) us
 | _,_,.nil=>.nil
 | _,_,.cons _ _ r=>.cons ⟨_,rfl⟩ (XY r)
theorem Jkb {K:W.Frag}{ι:List Zm}{H:Hp}:∀ns:List Int,RVs K ι H (ns.map IV.int) (ns.map V.int)
 | []=>rfl
 | _::ns=>⟨_,_,rfl,rfl,Jkb ns⟩
def srtI (xs:List IV):Option (List IV):=match JP xs with
 | some ns=>Za ((QX ns).map .int)
 | none=>Zc
section
variable {ce:CeT}{X:Cx}
def XS:IV->IH->Res IV
 | .ref i,h=>match h[i]? with
  | some (.lst xs)=>if xs.length<64 then(match srtI xs with
   | some ys=>.ok (.ref h.length) (h++[.lst ys])
   | none=>.stuck) else .stuck
  | _=>.stuck
 | _,_=>.stuck
theorem Jtq:Qi ce X (.builtin "sorted") (on1 XS):=Vi λ pj s σ H ι σi h x xv u Q E N ru qx K=>by
 cases x with
 | ref i =>
  obtain⟨a,e1,ha⟩:=qx
  subst e1
  cases ru
  dsimp only[XS] at K
  cases hi:h[i]? with
  | none=>rw[hi] at K;exact Zf K
  | some ob =>
   rw[hi] at K
   cases ob with
   | lst xs =>
    dsimp only at K
    split at K
    ·rename_i h64
     obtain⟨vs,e1,r1⟩:=N.at hi ha
     obtain⟨its,rv,pl,hz⟩:=N.inv.list (SqL.of e1)
     have li:its.length=xs.length:=by rw[<- rv.length,r1.length]
     have hb:64<=sizeLine:=by decide
     have fresh:H (s.heap.objs.size+1)=Zc:=N.inv.hok.fresh (ZaZ _)
     unfold srtI at K
     cases ei:JP xs with
     | some ns =>
      rw[ei] at K
      have are:=V9 ei r1 rv
      have ln:=Yt are
      refine sorted_ints pl.isList are (by omega) λ out ns' hI hp hs=>?_
      have en:=Jve hp hs
      subst en
      obtain⟨e,he⟩:=sortedAll_at s.heap its out
      have hl:((QX ns).map V.int).length<=sizeLine:=by rw[Zi,hp.length_eq];omega
      have I':=N.inv.laid (a:=s.heap.objs.size+1) (o:=.lst ((QX ns).map V.int)) (h':=sortedAll s.heap its out) (t':=s.toks) (λ _ _=>sortedAll_old) (ZaZ _) ⟨hl,out.toList,e,XY hI,he⟩
      exact finA N K (s.heap.objs.size+1) fresh ⟨_,J7,Jkb _⟩ _ _ I' rfl
     | none =>
      rw[ei] at K
      exact Zf K
    ·exact Zf K
   | _=>exact Zf K
 | _=>exact Zf K
end
def JY (f:Nat->Int):Nat->Int
 | 0=>0
 | 1=>f 0
 | j+2=>if f (j+1)<JY f (j+1) then f (j+1) else JY f (j+1)
theorem Jfx (f:Nat->Int)(hj:0<j):JY f (j+1)=if f j<JY f j then f j else JY f j:=by
 cases j with
 | zero=>omega
 | succ j=>rfl
section
variable {pr:ZA}{wd:ZW}{B:ZO}{R:ZdG->Zl->Prop}{it:Zm}{fps wrs:List Zm}{n:Nat}{P:Nat->Ze->Prop}{St:Nat->Zas->Prop}
theorem Jj9:(toString "min"++toString ".loop":String)="min.loop":=by decide
theorem Jyl {kw:List (Str×Ze)}(W:Walks pr wd B.in1 it fps wrs n P St)(f:Nat->Int)(hf:∀i v,P i v->∃t,v=.int (f i) t)(C:Zm)(hC:C∉fps) :
  ∀(r j:Nat)(z:Zl)(v:Ze)(u:Tok)(c:Nat),n-j=r->0<j->j<=n->St j z.heap->v=.int (JY f j) u->z.heap.get? C=Za (Jwq v c) ->
   (∀u h2 tk,(∀a o,a∉wrs->a≠C->z.heap.get? a=Za o->h2.get? a=Za o)->R (.ok (.ret (.int (JY f n) u))) { z with heap:=h2,toks:=tk }) ->
   Zc4 (Z8 pr wd) B (.builtin "min.loop" ⟨[.ref it,.none,.ref C],kw⟩) R z:=by
 have hw:C∉wrs:=λ q=>hC (W.sub _ q)
 intro r
 induction r with
 | zero =>
  intro j z v u c hr h0 hj st ev gC fin
  obtain rfl:j=n:=by omega
  subst ev
  refine Zar ZaV ?_
  rw[Zab ZR _]
  show Zx _ B.in1 (Zcb (.ref C)>>=_) _ _ z
  refine Zd (Zbk gC rfl ?_)
  show Zx _ B.in1 (tryCatch (ZbU (.ref it)) _>>=_) _ _ z
  refine Zd (Zau (W.done z _ _ st λ h2 tk keep=>?_))
  have gC2:=keep C _ hw gC
  show Zx _ B.in1 (Zd8 C (λ _=>#[])>>=_) _ _ _
  refine Zd ?_
  refine Zba gC2 rfl (Zd (Zbb (Z0 ?_)))
  exact fin u _ tk λ a o ha hb e=>(Zw _ _ (ZQ hb)).trans (keep a o ha e)
 | succ r ih =>
  intro j z v u c hr h0 hj st ev gC fin
  have lt:j<n:=by omega
  subst ev
  refine Zar ZaV ?_
  rw[Zab ZR _]
  show Zx _ B.in1 (Zcb (.ref C)>>=_) _ _ z
  refine Zd (Zbk gC rfl ?_)
  show Zx _ B.in1 (tryCatch (ZbU (.ref it)) _>>=_) _ _ z
  refine Zd (Zau (W.item j z _ _ lt st λ y h2 tk hP st2 keep=>?_))
  obtain⟨t,rfl⟩:=hf j y hP
  have gC2:=keep C _ hw gC
  have cmp:=CmpOf.ints_lt (prog:=pr) (w:=wd) (A:=B.in1) (P:=λ i v=>∃t,v=.int (if i=0 then f j else JY f j) t) (λ i=>if i=0 then f j else JY f j) (λ _ _ q=>q)
  show Zx _ B.in1 (tryCatch (ZbR [ZbQ (f j) t,ZbQ (f j) t] (Zcz .Lt (.int (f j) t) (.int (JY f j) u)>>=_)) _>>=_) _ _ _
  refine Zd (Zau (Zah (Zd (cmp 0 1 _ _ _ _ _ ⟨t,by simp⟩ ⟨u,by simp⟩ ?_))))
  refine Zd (Zah (ZaT ?_))
  refine Zd (Zbb (Z0 ?_))
  have step:=Jfx f h0
  by_cases hb:f j<JY f j
  ·rw[if_pos hb] at step
   simp only[if_true,show ¬(1:Nat)=0 by decide,if_false,decide_eq_true hb]
   refine Zd ?_
   refine Zba gC2 rfl (Zd (Zbb ?_))
   rw[Jj9]
   refine Z0 ⟨Za4 ZR _,ih (j+1) _ (.int (f j) t) t _ (by omega) (by omega) lt (W.frame _ _ _ st2 λ a ha o e=>?_) (by rw[step]) (Za5 _ gC2 rfl) λ u2 h3 tk3 k3=>?_⟩
   ·exact(Zw _ _ (λ q:C=a=>hC (by rw[q];exact ha))).trans e
   ·exact fin u2 h3 tk3 λ a o ha hc e=>k3 a o ha hc ((Zw _ _ (ZQ hc)).trans (keep a o ha e))
  ·rw[if_neg hb] at step
   simp only[if_true,show ¬(1:Nat)=0 by decide,if_false,decide_eq_false hb,Zaa]
   refine Zd (Zbb ?_)
   rw[Jj9]
   refine Z0 ⟨Za4 ZR _,ih (j+1) _ (.int (JY f j) u) u c (by omega) (by omega) lt st2 (by rw[step]) gC2 λ u2 h3 tk3 k3=>?_⟩
   exact fin u2 h3 tk3 λ a o ha hc e=>k3 a o ha hc (keep a o ha e)
end
theorem Jqy (a:Ze):Zeq "min" ⟨[a],[]⟩:=by unfold Zeq;kernel_rfl
section
variable {pr:ZA}{wd:ZW}{B:ZO}{E:QvT}{z:Zl}{l:Zm}{us:List Ze}{ns:List Int}{Q:QvT}
theorem Jyk (hh:B.handled=Zc)(hl:z.heap.IsList l us.toArray)(hi:ZbA us ns)(hne:ns≠[]) 
  (hQ:∀v h2 tk,(∃u,v=.int (JY (λ i=>ns.getD i 0) ns.length) u)->(∀b o,z.heap.get? b=Za o->h2.get? b=Za o)->Q v { z with heap:=h2,toks:=tk }) :
  Zx (Z8 pr wd) B (call (.builtin "min") [.ref l]) Q E z:=by
 obtain⟨ol,hol,_⟩:=id hl
 have lt:l<z.heap.objs.size:=Z1 hol
 have ll:=Yt hi
 refine kmk_tree PySem.F.kind_min PySem.F.plain_min PySem.F.entry_min (Jqy _) ?_
 show Zx _ B.in1 (Za7 "min" ["key","default"] 0 ⟨[],[]⟩>>=_) _ _ z
 refine Zd (wpAny_of_eq (show Za7 "min" ["key","default"] 0 ⟨[],[]⟩=pure [Zc,Zc] from rfl) ?_)
 refine Zd (Z0 ?_)
 refine Zd (ZaU hl ?_)
 refine Zd (Zcj ?_ (ZX _))
 rw[Jj9]
 have ne:l≠z.heap.objs.size:=Z5 lt
 have W:=ZcN (prog:=pr) (w:=wd) (A:=B.in1) hh z.heap.objs.size l ne us.toArray
 have sz:us.toArray.size=us.length:=Zu ..
 have hS:(z.heap.push { cls:=.type "list_iterator",data:=.fields #[.ref l,.int 0 0] }).objs.size=z.heap.objs.size+1:=ZdL ..
 have hC:(z.heap.push { cls:=.type "list_iterator",data:=.fields #[.ref l,.int 0 0] }).objs.size∉[z.heap.objs.size,l]:=by
  rw[hS]
  simp only[Z6,ZT,or_false,not_or]
  exact⟨ZaL (Za2 _),ZaL (Zb5 lt)⟩
 have hw:(z.heap.push { cls:=.type "list_iterator",data:=.fields #[.ref l,.int 0 0] }).objs.size∉[z.heap.objs.size]:=by
  rw[hS]
  simp only[Z6,ZT,or_false]
  exact ZaL (Za2 _)
 have old:∀b o,z.heap.get? b=Za o->((z.heap.push { cls:=.type "list_iterator",data:=.fields #[.ref l,.int 0 0] }).push (Zap "list" #[] 0)).get? b=Za o:=λ b o e=>Zh _ (Zh _ e)
 have gI:((z.heap.push { cls:=.type "list_iterator",data:=.fields #[.ref l,.int 0 0] }).push (Zap "list" #[] 0)).get? z.heap.objs.size=Za { cls:=.type "list_iterator",data:=.fields #[.ref l,.int 0 0] }:=Zh _ (Z2 _ rfl)
 have gC:((z.heap.push { cls:=.type "list_iterator",data:=.fields #[.ref l,.int 0 0] }).push (Zap "list" #[] 0)).get? (z.heap.push { cls:=.type "list_iterator",data:=.fields #[.ref l,.int 0 0] }).objs.size=Za (Zap "list" #[] 0):=Z2 _ rfl
 have notin:∀b o,z.heap.get? b=Za o->b∉[z.heap.objs.size]:=λ b o e q=>Z5 (Z1 e) (Zy.mp q)
 have notC:∀b o,z.heap.get? b=Za o->b≠(z.heap.push { cls:=.type "list_iterator",data:=.fields #[.ref l,.int 0 0] }).objs.size:=λ b o e=>by rw[hS];exact Z5 (Zb5 (Z1 e))
 refine Z0 ⟨Za4 ZR _,Zar ZaV ?_⟩
 rw[Zab ZR _]
 show Zx _ B.in1 (Zcb (.ref _)>>=_) _ _ _
 refine Zd (Zbk gC rfl ?_)
 show Zx _ B.in1 (tryCatch (ZbU (.ref z.heap.objs.size)) _>>=_) _ _ _
 have h0:¬us.length=0:=λ q=>hne (ZaG (by omega))
 ·refine Zd (Zau (W.item 0 _ _ _ (by rw[sz];omega) ⟨⟨_,gI,rfl,rfl⟩,(hl.push _).push _⟩ λ y h2 tk hP st2 keep=>?_))
  have gC2:=keep _ _ hw gC
  show Zx _ B.in1 (Zd8 (z.heap.push { cls:=.type "list_iterator",data:=.fields #[.ref l,.int 0 0] }).objs.size (λ _=>#[y,y])>>=_) _ _ _
  refine Zd ?_
  refine Zba gC2 rfl ?_
  rw[Jj9]
  have hf:∀(i:Nat)(v:Ze),us.toArray[i]?=Za v->∃t,v=.int ((λ i=>ns.getD i 0) i) t:=λ i v q=>ZdY hi i v (by simpa using q)
  obtain⟨t,rfl⟩:=hf 0 y hP
  refine Z0 ⟨Za4 ZR _,Jyl W (λ i=>ns.getD i 0) hf _ hC _ 1 _ _ t _ rfl (by decide) (by rw[sz];omega) (W.frame _ _ _ st2 λ a ha o e=>?_) rfl (Za5 _ gC2 rfl) λ u h3 tk3 k3=>?_⟩
  ·exact(Zw _ _ (λ q=>hC (by rw[q];exact ha))).trans e
  ·rw[sz,ll]
   refine hQ _ h3 tk3 ⟨u,rfl⟩ λ b o e=>k3 b o (notin b o e) (notC b o e) ((Zw _ _ (ZQ (notC b o e))).trans (keep b o (notin b o e) (old b o e)))
end
section
variable {ce:CeT}{X:Cx}
def VC:IV->IH->Res IV
 | .ref i,h=>match h[i]? with
  | some (.lst xs)=>(match JP xs with
   | some ns=>if ns=[] then .stuck else .ok (.int (JY (λ i=>ns.getD i 0) ns.length)) h
   | none=>.stuck)
  | _=>.stuck
 | _,_=>.stuck
theorem Jzz (hh:X.A.handled=Zc):Qi ce X (.builtin "min") (on1 VC):=Vi λ pj s σ H ι σi h x xv u Q E N ru qx K=>by
 cases x with
 | ref i =>
  obtain⟨a,e1,ha⟩:=qx
  subst e1
  cases ru
  dsimp only[VC] at K
  cases hi:h[i]? with
  | none=>rw[hi] at K;exact Zf K
  | some ob =>
   rw[hi] at K
   cases ob with
   | lst xs =>
    dsimp only at K
    cases hb:JP xs with
    | none=>rw[hb] at K;exact Zf K
    | some ns =>
     rw[hb] at K
     dsimp only at K
     split at K
     ·exact Zf K
     ·rename_i hne
      obtain⟨vs,e1,r1⟩:=N.at hi ha
      obtain⟨its,rv,pl,hz⟩:=N.inv.list (SqL.of e1)
      refine Jyk hh pl.isList (V9 hb r1 rv) hne λ v h2 tk ⟨t,ev⟩ kk=>?_
      subst ev
      exact fin0 N K rfl _ _ (N.inv.kept (t':=tk) kk) ⟨t,rfl⟩
   | _=>exact Zf K
 | _=>exact Zf K
end
theorem RVs.erase {K:W.Frag}{ι:List Zm}{H:Hp}:∀{xs:List IV}{vs:List V}(k:Nat),RVs K ι H xs vs->RVs K ι H (xs.eraseIdx k) (vs.eraseIdx k)
 | [],vs,k,h=>by
  cases (show vs=[] from h)
  exact rfl
 | _::_,_,0,h=>by
  obtain⟨v,r,rfl,q,t⟩:=h
  exact t
 | _::_,_,k+1,h=>by
  obtain⟨v,r,rfl,q,t⟩:=h
  exact⟨v,r.eraseIdx k,rfl,q,RVs.erase k t⟩
section
variable {ce:CeT}{X:Cx}
def isK (k:Int):Ze->Bool
 | .int a _=>a==k
 | _=>Zj
theorem Jrt:∀(us:List Ze)(ns:List Int),us.length=ns.length->(∀i v,us[i]?=Za v->∃t:Tok,v=ZbQ (ns.getD i 0) t)->ZbA us ns
 | [],[],_,_=>.nil
 | u::us,n::ns,hl,h=>by
  obtain⟨t,e⟩:=h 0 u rfl
  cases (show u=.int n t from e)
  exact .cons n t (Jrt us ns (by simpa using hl) λ i v q=>h (i+1) v q)
 | [],_::_,hl,_=>by cases hl
 | _::_,[],hl,_=>by cases hl
theorem XM (j:Int):rngI 0 j=((ZN j.toNat).map λ k=>((k:Nat):Int)).map IV.int:=by
 simp[rngI]
end
section
variable {prog:ZA}{w:ZW}{A:ZO}{E:QvT}{s:Zl}
end
open AutoSeq1 (wpAny_loadPart') in
section
variable {prog:ZA}{w:ZW}{A:ZO}{E:QvT}{s:Zl}
end
section
variable {ce:CeT}{X:Cx}
end
def Vn (a:Zca):Option Str:=match a with
 | { posonlyargs:=[],args:=[p],vararg:=Zc,kwonlyargs:=[],kw_defaults:=[],kwarg:=Zc,defaults:=[] }=>Za p.arg
 | _=>Zc
abbrev lamQ (q:Str):Str:=q++".<locals>."++"<lambda>"
abbrev lamO (q:Str)(params:Zca)(body:Expr)(scope:Zbi)(cl:List (Str×Zm))(pm ctv:Ze)(c:Zm):Obj:=W.kla_obj "<lambda>" (lamQ q) params body scope cl pm c ctv
def Q9 (mg:Str->Option Ze)(base:Zas):Prop :=
 ∃bm ob,mg "__builtins__"=Za (.ref bm)/\bm≠Zcs/\bm≠Zz/\base.get? bm=Za ob/\ob.cls=.type "module"/\ob.dict=Za Zcs/\ob.data=.plain
theorem QQ.rec (l:QQ H q cv)(hok:HOk P w H h):h.CodeRec cv (lamQ q):=by
 obtain⟨c,oc,vs,t,e1,e2,e3,e4⟩:=l
 exact⟨c,oc,vs,t,e1,(hok c _ e2).1,e3,e4⟩
theorem QQ.mono (fz:∀b o u,H b=Za (.frz o u)->H' b=Za (.frz o u))(l:QQ H q cv):QQ H' q cv:=by
 obtain⟨c,oc,vs,t,e1,e2,r⟩:=l
 exact⟨c,oc,vs,t,e1,fz _ _ _ e2,r⟩
theorem Ji2:∀(l:List Ze),TriplesOk l->Zd4 pos (l++[ZbK a,ZbK b,c])=Za cv->Zd4 pos l=Za cv∨cv=c
 | [],_,e=>by
  simp only[Zag,ZbK,Zd4] at e
  split at e
  ·cases e;exact .inr rfl
  ·cases e
 | .int x t::.int y u::z::rest,h,e=>by
  simp only[ZU,Zd4] at e ⊢
  split at e
  ·rename_i hh
   rw[if_pos hh]
   exact .inl e
  ·rename_i hh
   rw[if_neg hh]
   exact Ji2 rest h e
 | [.int _ _],h,_=>(show False from h).elim
 | [.int _ _,.int _ _],h,_=>(show False from h).elim
section
variable {ce:CeT}{X:Cx}
theorem Now.pinO {pj:PnT}{ι:List Zm}{σi:ISt}{h:IH}{σ:L2.St}{H:Hp}{s:Zl}{f:Zm}{fo:Obj}(N:Now ce X pj ι σi h σ H s)(e:s.heap.get? f=Za fo)(F:FpOk X pj H f)(d:∀v,fo.data≠.cell v):Now ce X (pj++[(f,fo)]) ι σi h σ H s:=by
 have I:=N.inv.pinned (fp:=[f]) (λ b hb=>by rw[Zy.mp hb];exact F) (λ b hb=>by rw[Zy.mp hb];exact⟨fo,e,d⟩)
 have ep:QJ [f] s.heap=[(f,fo)]:=by simp[QJ,e]
 rw[ep] at I
 exact⟨I,N.rel,N.st⟩
theorem Joh {q:Str}{j:Nat}{params:Zca}{body:Expr}{scope:Zbi}{pos:Pos}{cl:List (Str×Zm)}{pj:PnT}{s:Zl}{σ:L2.St}{H:Hp}{ι:List Zm}{σi:ISt}{h:IH}{Q:QvT}{E:QvT}
  (N:Now ce X pj ι σi h σ H s)(hj:h[j]?=Za (.tab q))(hcd:W.codeIn X.K X.env.code q=Zg)(hq:X.env.qual=q++".<locals>.")(hdef:defaultsOf params X.env=([],[]))(hcl:Zdo scope X.env=pure cl)(B:Q9 X.mg X.base)
  (K:∀f c pm ctv s' H',Now ce X (pj++[(f,lamO q params body scope cl pm ctv c)]) ι σi h σ H' s'->Nxt ι H ι H'->QQ H' q (.ref c)->Q (.ref f) s') :
  Zx (Z8 X.prog X.w) X.A (Zbe (.Lambda params body scope pos) X.env) Q E s:=by
 obtain⟨a,ha,hc,ps,hP,ht,hcodes⟩:=N.rel.at_ j _ hj
 obtain⟨c,ec,hhd⟩:=hc _ hcd
 have I:=N.inv
 have C:=W.codeHd_of_K I.kIn hhd
 have gP:s.heap.get? a=Za (W.tabObj ps):=I.hok a _ hP
 have hg:s.heap.Ns Zz X.mg:=I.ok.mod.glob.keeps I.bk
 obtain⟨bm,ob,b1,b2,b3,b4,b5,b6,b7⟩:=B
 have gb:=I.bs bm ob b4
 have nba:bm≠a:=λ z=>by rw[z,hP] at gb;cases gb.2
 have hb:s.heap.BuiltinsAt X.mg a:=⟨bm,ob,b1,b2,b3,nba,gb.1,b5,b6,b7⟩
 have nga:Zz≠a:=λ z=>by
  obtain⟨o,es,ep,e,d,_⟩:=hg
  rw[z,gP] at e
  cases e
  cases d
 refine W.kla_eval hdef ?_
 rw[hq]
 cases ea:Zd4 pos ps.toList with
 | some cv =>
  have LC:=hcodes pos cv ea
  obtain⟨c',oc,vs,t,ecv,_⟩:=id LC
  subst ecv
  refine W.kla_makeFunctionHit hcl I.ok.glob hg ec C gP ht ea hb λ ctv h' tk hk hsz=>?_
  have I1:=I.kept (h':=h'.push (lamO q params body scope cl ((X.mg "__name__").getD .none) ctv c')) (t':=tk) λ b o e=>Zh _ (hk b o e)
  have N1:Now ce X pj ι σi h σ H _:=⟨I1,N.rel,N.st⟩
  exact K h'.objs.size c' _ ctv _ H (N1.pinO (Z2 _ rfl) (I.fpOk hsz (I.hok.fresh hsz)) λ v z=>by
   have z':Data.func _=Ze2 v:=z
   cases z') .refl LC
 | none =>
  refine W.kla_makeFunction hcl I.ok.glob hg ec C gP ht ea nga hb λ c' ctv h' tk hx hge hlt hrec htb=>?_
  obtain⟨c2,oc,vs,t,e2,hoc,hd,hv⟩:=hrec
  cases e2
  generalize hps:ps++#[ZbK pos.line,ZbK pos.col,.ref c']=ps' at htb
  generalize hob:lamO q params body scope cl ((X.mg "__name__").getD .none) ctv c'=fo
  have fc:H c'=Zc:=I.hok.fresh hge
  have nca:c'≠a:=λ z=>by rw[z,hP] at fc;cases fc
  have lts:s.heap.objs.size<=h'.objs.size:=ZY hge (ZbZ hlt)
  obtain⟨H',hH⟩:∃H',H'=upd (upd H a (.tbl ps')) c' (.frz oc (.own 0)):=⟨_,rfl⟩
  have Ha:H' a=Za (.tbl ps'):=by rw[hH,Jr (ZQ nca),J7]
  have Hc:H' c'=Za (.frz oc (.own 0)):=by rw[hH,J7]
  have Ho:∀b,b≠a->b≠c'->H' b=H b:=λ b h1 h2=>by rw[hH,Jr h2,Jr h1]
  have kp:∀b o,b≠a->s.heap.get? b=Za o->(h'.push fo).get? b=Za o:=λ b o hb e=>Zh _ (hx b o hb e)
  have ga:(h'.push fo).get? a=Za (W.tabObj ps'):=Zh _ htb
  have frz:∀b o u,H b=Za (.frz o u)->H' b=Za (.frz o u):=λ b o u e=>by rw[Ho b (λ z=>by rw[z,hP] at e;cases e) (λ z=>by rw[z,fc] at e;cases e)];exact e
  have tup:∀b xs,H b=Za (.tup xs)->H' b=Za (.tup xs):=λ b xs e=>by rw[Ho b (λ z=>by rw[z,hP] at e;cases e) (λ z=>by rw[z,fc] at e;cases e)];exact e
  have own:∀b x,H b=Za (.own x)->H' b=Za (.own x):=λ b x e=>by rw[Ho b (λ z=>by rw[z,hP] at e;cases e) (λ z=>by rw[z,fc] at e;cases e)];exact e
  have I1:Inv X pj σ H' { s with heap:=h'.push fo,toks:=tk }:=by
   refine I.step (g':=s.gens) (d':=s.drawn) (ch:=[]) (λ b hb=>absurd hb (by simp)) (λ b o _ _ _ e n=>kp b o (λ z=>by rw[z,hP] at n;cases n) e) (λ b o _ _ _ e n=>⟨o.slots,kp b o (λ z=>by rw[z,hP] at n;cases n) e⟩) (λ b o _ e n=>?_) (λ b o _ e=>?_) tup frz (λ b qs e=>?_) (λ m hm=>?_) (λ b u e=>?_) I.bare
   ·rw[Ho b (λ z=>by rw[z,hP] at n;cases n) (Z5 (ZK (Z1 e) hge))];exact n
   ·by_cases hb:b=a
    ·subst hb;exact⟨_,ga⟩
    ·exact⟨o,kp b o hb e⟩
   ·by_cases hb:b=a
    ·subst hb
     rw[hP] at e
     cases e
     exact⟨_,by rw[Ha,<-hps]⟩
    ·exact⟨#[],by rw[Ho b hb (λ z=>by rw[z,fc] at e;cases e),e];simp⟩
   ·obtain⟨o,es,ep,ho,r⟩:=hm
    exact⟨o,es,ep,kp _ o (λ z=>by have:=I.free;rw[z,hP] at this;cases this) ho,r⟩
   ·by_cases hb:b=a
    ·subst hb
     rw[Ha] at e
     cases e
     exact ga
    ·by_cases hb2:b=c'
     ·subst hb2
      rw[Hc] at e
      cases e
      exact⟨Zh _ hoc,_,Zh _ hoc⟩
     ·rw[Ho b hb hb2] at e
      refine(I.hok b u e).stay (λ d v hd r=>kp d v (λ z=>?_) r) (λ d z=>own d _ z) tup
      subst z
      rcases hd with z|z
      ·exact hb z.symm
      ·rw[hP] at z;cases z
  have n:Nxt ι H ι H':=⟨⟨[],by simp⟩,⟨tup,frz⟩⟩
  have LC:QQ H' q (.ref c'):=⟨c',oc,vs,t,rfl,Hc,hd,hv⟩
  have R:Rel ce X.K ι h H':=by
   refine⟨N.rel.len,N.rel.nd,λ i o e=>?_⟩
   obtain⟨b,eb,ro⟩:=N.rel.at_ i o e
   refine⟨b,eb,?_⟩
   by_cases hb:b=a
   ·subst hb
    have hij:i=j:=N.rel.inj eb ha
    subst hij
    rw[hj] at e
    cases e
    refine⟨hc,ps',Ha,?_,λ pos' cv ea'=>?_⟩
    ·rw[<- hps,Array.toList_append]
     exact TriplesOk_snoc _ _ _ _ ht
    ·rw[<- hps,Array.toList_append] at ea'
     rcases Ji2 ps.toList ht ea' with z|z
     ·exact(hcodes pos' cv z).mono frz
     ·rw[z];exact LC
   ·refine ro.mono n λ u hu=>?_
    rw[Ho b hb (λ z=>by rw[z,fc] at hu;cases hu)]
    exact hu
  have N1:Now ce X pj ι σi h σ H' _:=⟨I1,R,N.st.mono n⟩
  subst hob
  exact K h'.objs.size c' _ ctv _ H' (N1.pinO (Z2 _ rfl) (I.fpOk lts (by rw[Ho _ (ZaL (ZK (Z1 gP) lts)) (ZaL hlt)];exact I.hok.fresh lts)) λ v z=>by
   have z':Data.func _=Ze2 v:=z
   cases z') n LC
end
abbrev envL (q:Str)(scope:Zbi)(L f:Zm)(cd:Ze)(cl:List (Str×Zm)):Env:=newEnv scope L Zz cl (lamQ q++".<locals>.") (Za f) cd Zc Zcs
def cxL (X:Cx)(A:ZO)(N':List Str)(q:Str)(scope:Zbi)(f:Zm)(cd:Ze)(s:Zl)(H:Hp):Cx :=
 { X with A:=A.deeper (envL q scope s.heap.objs.size f cd (clOf X.env.cells scope.names [])),N:=N',s₀:=s,H₀:=H,env:=envL q scope s.heap.objs.size f cd (clOf X.env.cells scope.names []),outer:=X.stack,stack:=envL q scope s.heap.objs.size f cd (clOf X.env.cells scope.names [])::X.stack,ex:=[],calm:=Zg,fn:=λ _=>Zj,pn:=[],xe:=λ _ _=>False }
structure LamSc (N0:List Str)(sc₀:List (Str×Zbd))(x:Str)(caps:List Str)(js:List Nat)(scope:Zbi):Prop where
 kind:scope.kind=.function
 co:scope.isCoroutine=Zj
 gen:scope.isGenerator=Zj
 nocell:∀y∈scope.names,y.2≠.cell
 par:scope.names.lookup x=Za .local
 free:∀y∈scope.names,y.2=.free->sc₀.lookup y.1=Za .cell
 fr:∀y,scope.names.lookup y=Za .free->(y,.free)∈scope.names
 cap:∀(k j:Nat)(y:Str),js[k]?=Za j->caps[k]?=Za y->N0[j]?=Za y/\scope.names.lookup y=Za .free
 len:js.length=caps.length
 nd:(x::caps).Nodup
theorem Jto:ZdU (W.kla_fn nm qu { posonlyargs:=[],args:=[p],vararg:=Zc,kwonlyargs:=[],kw_defaults:=[],kwarg:=Zc,defaults:=[] } body scope cl pm cd ctv) ⟨[u],[]⟩=pure [(p.arg,u)]:=by
 have e:(Zb2 p.arg [(p.arg,u)]).isNone=Zj:=by simp
 unfold ZdU
 simp[Zcb,e]
 rfl
section
variable {ce:CeT}{X:Cx}
theorem Jr6 {k:Nat}{A:ZO}{q x:Str}{caps:List Str}{js:List Nat}{params:Zca}{body:Expr}{scope:Zbi}{pm ctv:Ze}{c f:Zm}{m:E1}{v:IV}{u:Ze}{pj:PnT}{s:Zl}{σ:L2.St}{H:Hp}{ι:List Zm}{σi:ISt}{h:IH}{Q:QvT}{E:QvT} 
  (hA:A.frames=Za X.stack)(hr:Room (k+1) A)(N:Now ce X pj ι σi h σ H s)(hf:s.heap.get? f=Za (lamO q params body scope (clOf X.env.cells scope.names []) pm ctv c))(LC:QQ H q (.ref c))(hx:Vn params=Za x)(S:LamSc X.N X.env.scope.names x caps js scope)
  (hb:∀s' H',PEi ce (cxL X A (x::caps) q scope f (.ref c) s' H') body m)(ru:RU X.K ι H v u)(K:Kont ce X RU pj ι σi σ H ((m (Za v::js.map λ j=>(σi[j]?).join) h).nx) Q E) :
  Zx (Z8 X.prog X.w) A (call (.ref f) [u]) Q E s:=by
 have I:=N.inv
 have e0:=I.env0
 have lim:s.heap.NoLimit:=e0.mod.nolimit.keeps λ b o e=>(e0.bs b o e).1
 refine Zep (W.kla_callFunE hr.depth hf rfl S.co S.gen rfl (LC.rec I.hok) ?_)
 have hbind:ZdU (W.kla_fn "<lambda>" (lamQ q) params body scope (clOf X.env.cells scope.names []) pm (.ref c) ctv) ⟨[u],[]⟩=pure [(x,u)]:=by
  unfold Vn at hx
  split at hx
  ·cases hx
   exact Jto
  ·cases hx
 rw[hbind]
 refine Z0 (wpAny_newFunctionEnv S.nocell (λ y hy=>by rw[Zy.mp hy];exact S.par) (λ h3 hns hsb=>⟨lim.fresh _ hsb,?_⟩) S.kind)
 obtain⟨w,rw',qw⟩:=ru
 have keep:∀b o,s.heap.get? b=Za o->h3.get? b=Za o:=λ b o z=>(hsb.2 b (Z5 (Z1 z))).trans (Zh _ z)
 have cells':∀y d,(clOf X.env.cells scope.names []).lookup y=Za d->X.env.cells.lookup y=Za d:=Jjt _ _ (λ y d z=>by simp at z)
 have okX:(cxL X A (x::caps) q scope f (.ref c) s H).Ok:=by
  have noA:∀b:Zm,b∉(cxL X A (x::caps) q scope f (.ref c) s H).ex:=λ b z=>absurd (show b∈([]:List Zm) from z) (by simp)
  refine⟨I.ok.mod,S.kind,rfl,rfl,Zo _,λ y y' d a b=>I.ok.inj y y' d (cells' y d a) (cells' y' d b),λ y hy=>?_,λ y d z=>absurd (show Zj=Zg from z) Zs,λ _=>hr.hd,Around.frames_deeper hA,.inr ⟨rfl,rfl⟩,λ b z=>absurd z (noA b),e0.bs,e0.bsz,λ b _ _=>noA b,λ b z=>absurd z (noA b),e0.funs,e0.frf⟩
  have hy':scope.names.lookup y=Za .cell∨scope.names.lookup y=Za .free:=hy
  rcases hy' with z|z
  ·exact absurd rfl (S.nocell _ (Zaf z))
  ·have hm:=Zaf z
   obtain⟨d,hd⟩:=I.ok.has y (.inl (S.free (y,.free) hm rfl))
   exact Zbh.mp (Yk _ _ y d hm hd)
 have I3:Inv (cxL X A (x::caps) q scope f (.ref c) s H) [] (Za w::js.map λ j=>(σ[j]?).join) H { s with heap:=h3,toks:=s.toks+[(x,u)].length }:=by
  refine⟨okX,rfl,I.bare,Un.kept keep,⟨_,hns,λ i y z a b cc=>?_⟩,λ y d z=>?_,I.hok.fresh (Zo _),λ y d z=>I.freeC y d (cells' y d z),λ p hp=>absurd (show p∈([]:PnT) from hp) (by simp),I.hok.kept keep,by show _=(x::caps).length;simp[S.len]⟩
  ·cases i with
   | zero =>
    have a':Za x=Za y:=a
    cases a'
    have b':Za (Za w)=Za (Za z):=b
    cases b'
    exact⟨u,rw',.inl ⟨S.par,by simp⟩⟩
   | succ i =>
    have a':caps[i]?=Za y:=a
    have b':(js.map λ j=>(σ[j]?).join)[i]?=Za (Za z):=b
    rw[Zv] at b'
    cases ej:js[i]? with
    | none=>rw[ej] at b';cases b'
    | some j =>
     rw[ej] at b'
     have b2:(σ[j]?).join=Za z:=Zaj b'
     have hσ:σ[j]?=Za (Za z):=by
      cases es:σ[j]? with
      | none=>rw[es] at b2;cases b2
      | some o=>rw[es] at b2;rw[show o=Za z from b2]
     obtain⟨hx1,hx2⟩:=S.cap i j y ej a'
     have hm:=Zaf hx2
     have hk:=S.free (y,.free) hm rfl
     obtain⟨m0,hn,hl⟩:=I.loc
     obtain⟨u',ru',lk⟩:=hl j y z hx1 hσ (.inr (.inl hk))
     rcases lk with⟨e,_⟩|⟨e,d,hd,hcell⟩
     ·have hk':X.env.scope.names.lookup y=Za .cell:=hk
      have e':X.env.scope.names.lookup y=Za .local:=e
      rw[hk'] at e'
      cases e'
     ·obtain⟨d',hd2⟩:=Zbh.mp (Yk (cells:=X.env.cells) scope.names [] y d hm hd)
      have:=cells' y d' hd2
      rw[hd] at this
      cases this
      obtain⟨oc,hoc,hdd⟩:=hcell
      exact⟨u',ru',.inr ⟨.inr hx2,d,hd2,oc,keep _ _ hoc,hdd⟩⟩
  ·obtain⟨z',o,ho,hd⟩:=I.cell y d (cells' y d z)
   exact⟨z',o,keep _ _ ho,hd⟩
 have N3:Now ce (cxL X A (x::caps) q scope f (.ref c) s H) [] ι (Za v::js.map λ j=>(σi[j]?).join) h (Za w::js.map λ j=>(σ[j]?).join) H { s with heap:=h3,toks:=s.toks+[(x,u)].length }:=by
  refine⟨I3,N.rel,by simp,λ i z a=>?_⟩
  cases i with
  | zero =>
   have a':Za (Za v)=Za (Za z):=a
   cases a'
   exact⟨w,rfl,qw⟩
  | succ i =>
   have a':(js.map λ j=>(σi[j]?).join)[i]?=Za (Za z):=a
   rw[Zv] at a'
   cases ej:js[i]? with
   | none=>rw[ej] at a';cases a'
   | some j =>
    rw[ej] at a'
    have a2:(σi[j]?).join=Za z:=Zaj a'
    have hσ:σi[j]?=Za (Za z):=by
     cases es:σi[j]? with
     | none=>rw[es] at a2;cases a2
     | some o=>rw[es] at a2;rw[show o=Za z from a2]
    obtain⟨z',ez,qz⟩:=N.st.2 j z hσ
    refine⟨z',?_,qz⟩
    show(js.map λ j=>(σ[j]?).join)[i]?=Za (Za z')
    rw[Zv,ej]
    show Za ((σ[j]?).join)=_
    rw[ez]
    rfl
 refine W.kla_codeExpr (Zam (hb s H [] _ _ H ι _ h (λ u' s'=>Q u' s') (λ _ _=>False) N3 ?_) (λ _ _ z=>z) λ _ _ z=>z.elim)
 cases er:m (Za v::js.map λ j=>(σi[j]?).join) h with
 | ok v' h' =>
  rw[er] at K
  intro u' s' H' ι' N' n' ⟨z,rz,qz⟩
  have J:=N'.inv
  obtain⟨_,_,I',rz',e1,e2⟩:=I.after (Q:=λ z2 H2=>z2=z/\H2=H') ⟨z,H',J.os,J.bare,J.base,J.hok,rz,rfl,rfl⟩
  subst e1
  subst e2
  exact K u' s' _ ι' ⟨I',N'.rel,N.st.mono n'⟩ n' ⟨_,rz',qz⟩
 | exc n h'=>rw[er] at K;exact Zf K
 | stuck=>rw[er] at K;exact Zf K
end
def Vm (gt:IV->IV->Option Bool)(mk:IV->IH->Res IV)(i n:Nat):Nat->IV->IV->IH->Res IV
 | 0,b,_,h=>(match h[i]? with
  | some (.lst ys)=>if ys.length=n then .ok b h else .stuck
  | _=>.stuck)
 | r+1,b,kb,h=>(match h[i]? with
  | some (.lst ys)=>if ys.length=n then(match ys[n-(r+1)]? with
    | some y=>(mk y h).nx.bind λ k h'=>(match gt k kb with
     | some Zg=>Vm gt mk i n r y k h'
     | some Zj=>Vm gt mk i n r b kb h'
     | none=>.stuck)
    | none=>.stuck) else .stuck
  | _=>.stuck)
theorem FpOk.more {X:Cx}{pj:PnT}{H:Hp}{b:Zm}{p:Zm×Obj}(F:FpOk X pj H b)(ne:p.1≠b):FpOk X (pj++[p]) H b:=by
 refine⟨F.1,F.2.1,F.2.2.1,F.2.2.2.1,F.2.2.2.2.1,λ q hq=>?_⟩
 rcases ZM.mp hq with z|z
 ·exact F.2.2.2.2.2 q (Zat _ z)
 ·rcases ZM.mp z with z|z
  ·exact F.2.2.2.2.2 q (Zn _ z)
  ·rw[Zy.mp z]
   exact ne
theorem FpOk.at {X:Cx}{pj:PnT}{H H':Hp}{b:Zm}(F:FpOk X pj H b)(n:H' b=Zc):FpOk X pj H' b:=⟨n,F.2⟩
theorem Jn0 {xs:List V}{us:List Ze}{i:Nat}{u:Ze}(r:Vals xs us)(e:us[i]?=Za u):∃x,xs[i]?=Za x/\RelV x u:=by
 have hi:=(Zr.mp e).1
 have hl:=r.length
 have hi2:i<xs.length:=by omega
 have hx:xs[i]?=Za xs[i]:=Zb hi2
 obtain⟨u',e',q⟩:=r.get hx
 rw[e] at e'
 cases e'
 exact⟨_,hx,q⟩
section
variable {ce:CeT}{X:Cx}
theorem Now.turned {pj:PnT}{ι:List Zm}{σi:ISt}{h:IH}{σ:L2.St}{H:Hp}{s:Zl}{it:Zm}{h':Zas}{t':Nat}(N:Now ce X pj ι σi h σ H s)(F:FpOk X pj H it)(k:∀b o,b≠it->s.heap.get? b=Za o->h'.get? b=Za o) :
  Now ce X pj ι σi h σ H { s with heap:=h',toks:=t' }:=⟨N.inv.turned k F.1 F.2.1 F.2.2.2.1 F.2.2.2.2.1 F.2.2.2.2.2,N.rel,N.st⟩
theorem Now.keptH {pj:PnT}{ι:List Zm}{σi:ISt}{h:IH}{σ:L2.St}{H:Hp}{s:Zl}{h':Zas}{t':Nat}(N:Now ce X pj ι σi h σ H s)(k:∀b o,s.heap.get? b=Za o->h'.get? b=Za o) :
  Now ce X pj ι σi h σ H { s with heap:=h',toks:=t' }:=⟨N.inv.kept k,N.rel,N.st⟩
def CmpK (ce:CeT)(X:Cx)(A:ZO)(op:CmpOp)(gt:IV->IV->Option Bool):Prop :=
 ∀(pj:PnT)(ι:List Zm)(σi:ISt)(h:IH)(σ:L2.St)(H:Hp)(s:Zl)(k kb:IV)(u ub:Ze)(b:Bool)(Q:QvT)(E:QvT),Now ce X pj ι σi h σ H s->RU X.K ι H k u->RU X.K ι H kb ub->gt k kb=Za b ->
  (∀h' t',(∀a o,s.heap.get? a=Za o->h'.get? a=Za o)->Q (.bool b) { s with heap:=h',toks:=t' })->Zx (Z8 X.prog X.w) A (Zcz op u ub) Q E s
def Jtl (ce:CeT)(X:Cx)(A:ZO)(σi:ISt)(σ:L2.St)(pj:PnT)(G:Hp->Prop)(fv:Ze)(mk:IV->IH->Res IV):Prop :=
 ∀(pl:PnT)(s:Zl)(H:Hp)(ι:List Zm)(h:IH)(v:IV)(u:Ze)(Q:QvT),Now ce X (pj++pl) ι σi h σ H s->G H->RU X.K ι H v u->Kont ce X RU (pj++pl) ι σi σ H (mk v h).nx Q (λ _ _=>False) ->
  Zx (Z8 X.prog X.w) A (call fv [u]) Q (λ _ _=>False) s
theorem Jsj {α γ:Type}{pj:PnT}{ι:List Zm}{σi:ISt}{σ:L2.St}{H:Hp}{R:REL α Ze}{R':REL γ Ze}{r:Res α}{g:α->IH->Res γ}{Q:QvT}{E:QvT}{pl:PnT}{Q1:QvT}
  (K:Kont ce X R' pj ι σi σ H (r.nx.bind g) Q E)
  (step:∀x h1 u s1 H1 ι1,Now ce X (pj++pl) ι1 σi h1 σ H1 s1->Nxt ι H ι1 H1->R X.K ι1 H1 x u->Kont ce X R' pj ι1 σi σ H1 (g x h1) Q E->Q1 u s1):Kont ce X R (pj++pl) ι σi σ H r.nx Q1 (λ _ _=>False):=by
 cases r with
 | ok v h'=>exact λ u s' H' ι' N' n' q=>step v h' u s' H' ι' N' n' q (Kont.mono (r:=g v h') K n')
 | exc n h'=>exact Zf K
 | stuck=>exact Zf K
section
variable {A:ZO}{R:ZdG->Zl->Prop}{Q:QvT}{E:QvT}{pj:PnT}{σi:ISt}{σ:L2.St}{G:Hp->Prop}{fq:Zm}{mk:IV->IH->Res IV}{gt:IV->IV->Option Bool}{i n:Nat}{l I C:Zm}{kw:List (Str×Ze)}
end
theorem Kont.more {α β:Type}{R:REL α β}{pj pl:PnT}{ι:List Zm}{σi:ISt}{σ:L2.St}{H:Hp}{r:Res α}{Q:β->Zl->Prop}{E:QvT}(K:Kont ce X R pj ι σi σ H r Q E):Kont ce X R (pj++pl) ι σi σ H r Q E:=by
 cases r with
 | ok v h'=>exact λ u s' H' ι' N n q=>K u s' H' ι' N.pins n q
 | exc m h'=>exact λ pl' a s' H' ι' N n q=>K (pl++pl') a s' H' ι' (by rw[<- ZZ];exact N) n q
 | stuck=>exact K
theorem Jog {params:Zca}{x:Str}{env:Env}(hx:Vn params=Za x):defaultsOf params env=([],[]):=by
 unfold Vn at hx
 split at hx
 ·rfl
 ·cases hx
end
section
variable {ce:CeT}{X:Cx}{C:Zm}{x c:Str}{np cpos pos:Pos}{e:Expr}{es:List Expr}{ma:A1}
end
section
variable {ce:CeT}{X:Cx}{a C:Zm}{pj:PnT}{σ:L2.St}{H:Hp}{s:Zl}{ι:List Zm}{σi:ISt}{h:IH}{n:Nat}{c:Str}{fs:List (Str×IV)}{tv:Ze}
end
section
variable {ce:CeT}{X:Cx}
def slT:IV->Option Int->Option Int->IH->Res IV
 | .str x,lo,hi,h=>if x.length<=sizeLine then .ok (.str (Zef x lo hi)) h else .stuck
 | x,lo,hi,h=>slI x lo hi h
theorem J4n:SlI ce X slT:=by
 intro pj s σ H ι σi h x v vl vu lo hi sl Q E N rx hs pl pu K
 cases x with
 | str x =>
  obtain⟨xv,rx,qx⟩:=rx
  cases (show xv=.str x from qx)
  obtain⟨t,rfl⟩:=rx
  dsimp only[slT] at K
  split at K
  ·rename_i hz
   refine⟨"str",_,F.slot_str_getitem.lookup,typeIs_str _ _ _,?_⟩
   cases pl with
   | none =>
    cases pu with
    | none=>exact ZbG (l:=Zc) (u:=Zc) (st:=Zc) hs rfl (ZcZ ⟨ZY (ZdM x _ _) hz,λ t' k=>fin0 N K rfl _ _ (N.inv.tok _) ⟨_,rfl⟩⟩)
    | int j tj=>exact ZbG (l:=Zc) (u:=Za (j,tj)) (st:=Zc) hs rfl (ZcZ ⟨ZY (ZdM x _ _) hz,λ t' k=>fin0 N K rfl _ _ (N.inv.tok _) ⟨_,rfl⟩⟩)
   | int i ti =>
    cases pu with
    | none=>exact ZbG (l:=Za (i,ti)) (u:=Zc) (st:=Zc) hs rfl (ZcZ ⟨ZY (ZdM x _ _) hz,λ t' k=>fin0 N K rfl _ _ (N.inv.tok _) ⟨_,rfl⟩⟩)
    | int j tj=>exact ZbG (l:=Za (i,ti)) (u:=Za (j,tj)) (st:=Zc) hs rfl (ZcZ ⟨ZY (ZdM x _ _) hz,λ t' k=>fin0 N K rfl _ _ (N.inv.tok _) ⟨_,rfl⟩⟩)
  ·exact Zf K
 | _=>exact x_sl pj s σ H ι σi h _ v vl vu lo hi sl Q E N rx hs pl pu K
end
theorem Jqw (a:Ze):Zeq "max" ⟨[a],[]⟩:=by unfold Zeq;kernel_rfl
section
variable {ce:CeT}{X:Cx}
def XB:IV->IH->Res IV
 | .ref i,h=>match h[i]? with
  | some (.lst xs)=>(match JP xs with
   | some ns=>if ns=[] then .stuck else .ok (.int (JS (λ i=>ns.getD i 0) ns.length)) h
   | none=>.stuck)
  | _=>.stuck
 | _,_=>.stuck
theorem Jzy (hh:X.A.handled=Zc):Qi ce X (.builtin "max") (on1 XB):=Vi λ pj s σ H ι σi h x xv u Q E N ru qx K=>by
 cases x with
 | ref i =>
  obtain⟨a,e1,ha⟩:=qx
  subst e1
  cases ru
  dsimp only[XB] at K
  cases hi:h[i]? with
  | none=>rw[hi] at K;exact Zf K
  | some ob =>
   rw[hi] at K
   cases ob with
   | lst xs =>
    dsimp only at K
    cases hb:JP xs with
    | none=>rw[hb] at K;exact Zf K
    | some ns =>
     rw[hb] at K
     dsimp only at K
     split at K
     ·exact Zf K
     ·rename_i hne
      obtain⟨vs,e1,r1⟩:=N.at hi ha
      obtain⟨its,rv,pl,hz⟩:=N.inv.list (SqL.of e1)
      refine Jsi (d:=Zc) rfl (Jqw _) (λ q=>absurd q hne) hh pl.isList (V9 hb r1 rv) λ v h2 tk mi kk=>?_
      rcases mi with⟨e,_⟩|⟨_,t,ev⟩
      ·exact absurd e hne
      ·subst ev
       exact fin0 N K rfl _ _ (N.inv.kept (t':=tk) kk) ⟨t,rfl⟩
   | _=>exact Zf K
 | _=>exact Zf K
def XA:IV->IH->Res IV
 | .ref i,h=>match h[i]? with
  | some (.dct kvs)=>.ok (.int kvs.length) h
  | _=>.stuck
 | _,_=>.stuck
theorem Jzw:Qi ce X (.builtin "len") (on1 XA):=Vi λ pj s σ H ι σi h x xv u Q E N ru qx K=>by
 cases x with
 | ref i =>
  obtain⟨a,e1,ha⟩:=qx
  subst e1
  cases ru
  dsimp only[XA] at K
  cases hi:h[i]? with
  | none=>rw[hi] at K;exact Zf K
  | some ob =>
   rw[hi] at K
   cases ob with
   | dct kvs =>
    obtain⟨ws,e1,r1⟩:=N.at hi ha
    refine J2x N.inv (.of e1) λ t s' I'=>?_
    rw[r1.length]
    exact fin0 N K rfl _ _ I' ⟨_,rfl⟩
   | _=>exact Zf K
 | _=>exact Zf K
structure BasK (K:W.Frag)(C:Zm):Prop where
 sp:W.specialIn K (.ref C) "__getattribute__"=Za (Za (.builtin "type.__getattribute__"))
 rd:W.readsIn K C (.type "type")=Zg
 fc:∃fa,W.findIn K (.ref C) "__init__"=Za (Za (.ref fa))/\W.findCls K (.ref C) (.type "type") "__init__"=Za (.val (.ref fa))/\W.keepIn K (.ref fa)=Zg
variable {k:Nat}{fa C:Zm}{fd:ZaD}{ps:List Str}{f:List IV->IH->Res IV}{dvs:List IV}{ds:List Ze}{x:Str}{p pos apos:Pos}{e:Expr}{es:List Expr}{ma:A1}{pl:Sem Bool}
theorem J0e (F:FnOk X.prog X.w X.K X.mg X.base (CXI X.prog X.w) k fa fd ps (spI ce X.K ps f))(hr:Room k X.A)(hg:Gl X x)(hm:X.mg x=Za (.ref C))(B:BasK X.K C)(M:Mk X.K C fa)(hb:Qo X.K fd ps ds)(hd:∃vs,Vals vs ds/\∀ι H,RVs X.K ι H dvs vs) 
  (ha:PAi ce X (e::es) ma)(hlen:∀σ h xs h',ma σ h=.ok xs h'->xs.length+ds.length=ps.length)(hdb:(x==("__debug__":Str))=Zj:=by decide)(he:ZG (e::es) X.env=(Zj,Zbe e X.env)::ZG es X.env:=by rfl)(hpl:(Zbj pos (ZG es X.env)).any (·.1)=Zj:=by rfl)
  (ht:Zbe (.Call (.Attribute (.Name x p) "__init__" apos) (e::es) [] pos) X.env=(do
   let ov<-Zbe (.Name x p) X.env
   Zez apos.atName
   let (f,first)<-ZbR [ov] (Zd2 ov "__init__" pl)
   callWith pos f first (Zbj pos (ZG (e::es) X.env)) (Zd7 pos (Zcx [] X.env))):=by rfl) :
  PEi ce X (.Call (.Attribute (.Name x p) "__init__" apos) (e::es) [] pos) (Jm f dvs ma):=by
 intro pj s σ H ι σi h Q E N K
 obtain⟨fa',f1,f2,hk⟩:=B.fc
 have ef:fa'=fa:=by
  have:=f1.symm.trans M.init
  cases this
  rfl
 subst ef
 refine W.methodCall_KW (pl:=pl) (Xp N.inv hg hm ?_ hdb) ht
 refine W.method_cls N.inv.kIn B.sp (W.cls_value N.inv.kIn B.rd f2 rfl ?_)
 have N':Now ce X pj ι σi h σ H { s with toks:=s.toks+1 }:=⟨N.inv.tok _,N.rel,N.st⟩
 refine W.callWith_K (h₀:=X.base) N.inv.ok.mod.kin hk ?_ he hpl
 have K':=K
 unfold Jm at K'
 refine ha pos pj _ σ H ι σi h _ E N' ?_
 cases e0:ma σi h with
 | exc n h'=>rw[e0] at K';exact K'
 | stuck=>rw[e0] at K';exact K'
 | ok xs h' =>
  rw[e0] at K'
  intro us s1 H1 ι1 N1 n1 r1
  have hl:xs.length=us.length:=by
   obtain⟨vs,rv,q⟩:=r1
   rw[<- rv.length,q.length]
  have hl2:=hlen σi h xs h' e0
  exact⟨N1.inv.kIn,Y2 (us:=us) F hr hb hd (by omega) N1 r1 (Kont.mono (r:=f (xs++dvs) h') K' n1)⟩
end
section
variable {prog:ZA}{w:ZW}{A:ZO}{E:QvT}{s:Zl}{x y:Str}{t u:Tok}{Q:QvT}
open Builtin Builtin.Str in
end
section
variable {ce:CeT}{X:Cx}
def Xn:IV->IH->Res IV
 | .str x,h=>if x.length<=640 then(match ZdZ x with
  | some n=>.ok (.int n) h
  | none=>.stuck) else .stuck
 | v,h=>intI v h
theorem Jzv:Qi ce X (.type "int") (on1 Xn):=by
 intro pj s σ H ι σi h xs us Q E N rs K
 match xs,K with
 | [.str x],K =>
  obtain⟨vs,rv,qs⟩:=rs
  obtain⟨w,rfl,e⟩:=qs.one_of
  cases (show w=.str x from e)
  obtain⟨u,rfl,ru⟩:=Q0 rv
  obtain⟨t,rfl⟩:=ru
  have K:Kont ce X RU pj ι σi σ H (if x.length<=640 then(match ZdZ x with
   | some n=>.ok (.int n) h
   | none=>.stuck) else .stuck) Q E:=K
  split at K
  ·rename_i hz
   cases en:ZdZ x with
   | none=>rw[en] at K;exact Zf K
   | some n =>
    rw[en] at K
    exact W.KIN.call_text en hz (fin0 N K rfl _ _ (N.inv.tok _) ⟨_,rfl⟩)
  ·exact Zf K
 | [],K=>exact VR pj s σ H ι σi h [] us Q E N rs K
 | [.non],K=>exact VR pj s σ H ι σi h _ us Q E N rs K
 | [.bl _],K=>exact VR pj s σ H ι σi h _ us Q E N rs K
 | [.int _],K=>exact VR pj s σ H ι σi h _ us Q E N rs K
 | [.ref _],K=>exact VR pj s σ H ι σi h _ us Q E N rs K
 | [.tup _],K=>exact VR pj s σ H ι σi h _ us Q E N rs K
 | [.rol _],K=>exact VR pj s σ H ι σi h _ us Q E N rs K
 | y::z::r,K=>exact VR pj s σ H ι σi h (y::z::r) us Q E N rs K
end
section
variable {prog:ZA}{w:ZW}{A:ZO}{E:QvT}{s:Zl}
end
section
variable {ce:CeT}{X:Cx}
end
section
variable {ce:CeT}{X:Cx}{pj:PnT}{σ:L2.St}{H:Hp}{s:Zl}{ι:List Zm}{σi:ISt}{h:IH}{n:Nat}{c:Str}{fs:List (Str×IV)}{a:Zm}
end
section
variable {P:ZA}{w:ZW}{K:W.Frag}{mg:Str->Option Ze}{base:Zas}{ce:CeT}
end
section
variable {ce:CeT}{X:Cx}
end
section
variable {prog:ZA}{w:ZW}{A:ZO}{E:QvT}{s:Zl}
end
def neIn (K:W.Frag)(C:Zm):Bool:=match K.lookup C with
 | some ⟨.type "type",_,.cls cd,sl⟩=>(match cd.mro,sl.toList with
  | [.ref C',.type "object"],[_,_,_,_,Za (.builtin _),_]=>C'==C&&!cd.hasDel&&W.nsOkIn K cd.ns&&W.nsIn K cd.ns "__eq__"==Za Zc&&W.nsIn K cd.ns "__ne__"==Za Zc
  | _,_=>Zj)
 | _=>Zj
section
variable {ce:CeT}{X:Cx}{pj:PnT}{s:Zl}{σ:L2.St}{H:Hp}{ι:List Zm}{σi:ISt}{h:IH}
end
section
variable {ce:CeT}{X:Cx}
end
section
variable {X:Cx}
end
section
variable {ce:CeT}{X:Cx}
end
def VP:Ty->Option Bool
 | .lst=>Za Zg|.ins c=>if c=="Work" then Za Zj else Zc|.exc _=>Zc|_=>Za Zj
theorem Jp3 {ce:CeT}{K:W.Frag}(h:∀C,ce "Work"=Za C->ClsI K C/\W.kitOne K (.ref C) (.type "list")=Za Zj):IsOk ce K (.type "list") VP:=by
 have O:IsOk ce K (.type "list") Vf:=Jl0
 refine⟨O.non,O.bl,O.int,O.str,O.lst,O.tup,O.dct,λ k C b e hk=>?_,(λ k C b e=>by cases e)⟩
 unfold VP at e
 dsimp only at e
 split at e
 ·rename_i q
  cases beq_iff_eq.mp q
  cases e
  exact h C hk
 ·cases e
section
variable {ce:CeT}{X:Cx}{x:Expr}{m:E1}{pos:Pos}
end
section
variable {prog:ZA}{w:ZW}{A:ZO}{E:QvT}{hp:Zas}{ge:Array Zet}{dr:Drawn}{tk:Nat}{ox:OsState}
variable {nm qn:Str}{C Na:Zm}{bs bm bmB:List Ze}{hdct:Bool}{sn:List Str}{sub:List Ze}{ab:Bool}{col:Option Bool}{dd:Option Zm}{k0 k1 k2 k3 k5:Option Ze}{B Bn newId nid initId inN:String}{bmN:List Ze}
end
section
variable {X:Cx}{pj:PnT}{σ:L2.St}{H:Hp}{s:Zl}{k:Nat}{f C:Zm}{fd:ZaD}{ps:List Str}{sp:Sp}{dvs:List V}{ds:List Ze}{E:XK}{Q:VK}{us:List Ze}{vs:List V}{W:QvT}
end
section
variable {ce:CeT}{X:Cx}{k:Nat}{fa C:Zm}{fd:ZaD}{ps:List Str}{f:List IV->IH->Res IV}{dvs:List IV}{ds:List Ze}{x c:Str}{p pos:Pos}{e:Expr}{es:List Expr}{ma:A1}
end
section
variable {X:Cx}{pj:PnT}{σ:L2.St}{H:Hp}{s:Zl}{f C e:Zm}{tv:Ze}{d:Option Zm}{us:List Ze}
end
section
variable {ce:CeT}{X:Cx}{D:Zm}{x:Str}{p pos apos:Pos}{e:Expr}{es:List Expr}{ma:A1}{pl:Sem Bool}
end
section
variable {prog:ZA}{w:ZW}{A:ZO}{K:W.Frag}{C x:Zm}{s:Zl}{R:ZdG->Zl->Prop}{ox:Obj}{name:Str}{v:Ze}
end
section
variable {prog:ZA}{w:ZW}{A:ZO}{K:W.Frag}{C x:Zm}{s:Zl}{ox:Obj}{name:Str}{v:Ze}
end
section
variable {ce:CeT}{X:Cx}{o value:Expr}{mo mv:E1}{pos pos':Pos}{fl:Str}
end
end L3
namespace L3
open PySem PySem.Spec PySem.Calls PyProof.Rows L2
section
variable {prog:ZA}{w:ZW}{A:ZO}{E:QvT}{s:Zl}{K:W.Frag}{x D:Zm}{ox od:Obj}{f:Str}{v:Ze}
end
section
variable {ce:CeT}{X:Cx}{o:Expr}{mo:E1}{pos:Pos}{fl:Str}
end
section
variable {ce:CeT}{X:Cx}
end
end L3
namespace L3
open PySem PySem.Spec PyProof.Rows L2
section
variable {ce:CeT}{X:Cx}
end
section
variable {α β γ δ:Type}{ce:CeT}{X:Cx}{R:REL α β}{R':REL γ δ}{a:Zm}{n:Nat}
variable {b c:Expr}{pos:Pos}{rest:List Expr}{ta tb:T1}{mb:E1}
end
def X8 (gt:IV->IV->Option Bool)(mk:IV->IH->Res IV)(i:Nat)(h:IH):Res IV:=match h[i]? with
 | some (.lst ys)=>(match ys[0]? with
  | some y=>(mk y h).nx.bind λ k h'=>Vm gt mk i ys.length (ys.length-1) y k h'
  | none=>.stuck)
 | _=>.stuck
theorem Jgz:(toString "min"++toString ".loop":String)="min.loop":=by decide
section
variable {ce:CeT}{X:Cx}
section
variable {A:ZO}{R:ZdG->Zl->Prop}{Q:QvT}{E:QvT}{pj:PnT}{σi:ISt}{σ:L2.St}{G:Hp->Prop}{fq:Zm}{mk:IV->IH->Res IV}{gt:IV->IV->Option Bool}{i n:Nat}{l I C:Zm}{kw:List (Str×Ze)}
theorem Juq (hh:A.handled=Zc)(cm:CmpK ce X A.in1 .Lt gt)(ko:Jtl ce X A.in1 σi σ pj G (.ref fq) mk)(hG:∀H H',Ext H H'->G H->G H')(hR:∀v s',Q v s'->R (.ok (.ret v)) s')(hIC:I≠C) :
  ∀(r j:Nat)(z:Zl)(H:Hp)(ι:List Zm)(h:IH)(b kb:IV)(vb uk:Ze)(c:Nat),n-j=r->0<j->j<=n->Now ce X pj ι σi h σ H z->G H->ι[i]?=Za l->FpOk X pj H I->FpOk X pj H C->z.heap.IsListIter I l j ->
   z.heap.get? C=Za (Zap "list" #[vb,uk] c)->RU X.K ι H b vb->RU X.K ι H kb uk->Kont ce X RU pj ι σi σ H (Vm gt mk i n r b kb h) Q E ->
   Zc4 (Z8 X.prog X.w) A (.builtin "min.loop" ⟨[.ref I,.ref fq,.ref C],kw⟩) R z:=by
 intro r
 induction r with
 | zero =>
  intro j z H ι h b kb vb uk c hr h0 hj N g hi fI fC st gC rb rk K
  obtain rfl:j=n:=by omega
  unfold Vm at K
  cases eh:h[i]? with
  | none=>rw[eh] at K;exact Zf K
  | some ob =>
   rw[eh] at K
   cases ob with
   | lst ys =>
    dsimp only at K
    split at K
    ·rename_i hlen
     obtain⟨ws,e1,r3⟩:=N.at eh hi
     obtain⟨its,rv2,pl,_⟩:=N.inv.list (SqL.of e1)
     have ne:l≠I:=λ q=>by have:=fI.1;rw[<- q,e1] at this;cases this
     have sz:its.toArray.size=j:=by
      rw[Zu,<-rv2.length,r3.length,hlen]
     have W:=ZcN (prog:=X.prog) (w:=X.w) (A:=A.in1) hh I l ne its.toArray
     refine Zar ZaV ?_
     rw[Zab ZR _]
     show Zx _ A.in1 (Zcb (.ref C)>>=_) _ _ z
     refine Zd (Zbk gC rfl ?_)
     show Zx _ A.in1 (tryCatch (ZbU (.ref I)) _>>=_) _ _ z
     refine Zd (Zau (W.done z _ _ ⟨by rw[sz];exact st,pl.isList⟩ λ h2 tk keep=>?_))
     have gC2:=keep C _ (λ q=>hIC (Zy.mp q).symm) gC
     have N1:=N.turned (h':=h2) (t':=tk) fI λ b o hb e=>keep b o (λ q=>hb (Zy.mp q)) e
     show Zx _ A.in1 (Zd8 C (λ _=>#[])>>=_) _ _ _
     refine Zd ?_
     refine Zba gC2 rfl (Zd (Zbb (Z0 ?_)))
     have N2:=N1.turned (h':=h2.update C (Zan λ _=>#[])) (t':=tk) fC λ b o hb e=>(Zw _ _ (ZQ hb)).trans e
     exact hR _ _ (K _ _ _ _ N2 .refl rb)
    ·exact Zf K
   | _=>exact Zf K
 | succ r ih =>
  intro j z H ι h b kb vb uk c hr h0 hj N g hi fI fC st gC rb rk K
  unfold Vm at K
  cases eh:h[i]? with
  | none=>rw[eh] at K;exact Zf K
  | some ob =>
   rw[eh] at K
   cases ob with
   | lst ys =>
    dsimp only at K
    split at K
    ·rename_i hlen
     obtain⟨ws,e1,r3⟩:=N.at eh hi
     obtain⟨its,rv2,pl,_⟩:=N.inv.list (SqL.of e1)
     have ne:l≠I:=λ q=>by have:=fI.1;rw[<- q,e1] at this;cases this
     have sz:its.toArray.size=n:=by
      rw[Zu,<-rv2.length,r3.length,hlen]
     have ej:n-(r+1)=j:=by omega
     rw[ej] at K
     have W:=ZcN (prog:=X.prog) (w:=X.w) (A:=A.in1) hh I l ne its.toArray
     refine Zar ZaV ?_
     rw[Zab ZR _]
     show Zx _ A.in1 (Zcb (.ref C)>>=_) _ _ z
     refine Zd (Zbk gC rfl ?_)
     show Zx _ A.in1 (tryCatch (ZbU (.ref I)) _>>=_) _ _ z
     refine Zd (Zau (W.item j z _ _ (by rw[sz];omega) ⟨st,pl.isList⟩ λ y h2 tk hP st2 keep=>?_))
     have ey:its[j]?=Za y:=by simpa using hP
     obtain⟨x,ex,rx⟩:=Jn0 rv2 ey
     obtain⟨yv,eyv,qy⟩:=r3.get' ex
     rw[eyv] at K
     dsimp only at K
     have gC2:=keep C _ (λ q=>hIC (Zy.mp q).symm) gC
     have N1:=N.turned (h':=h2) (t':=tk) fI λ b o hb e=>keep b o (λ q=>hb (Zy.mp q)) e
     obtain⟨oI,hoI,hoc,hod⟩:=id st2.1
     have N2:=(N1.pinO gC2 fC λ v z=>by cases z).pinO hoI (FpOk.more (p:=(C,Zap "list" #[vb,uk] c)) fI (ZQ hIC)) λ v z=>by rw[hod] at z;cases z
     rw[ZZ] at N2
     show Zx _ A.in1 (tryCatch (ZbR [y] (call (.ref fq) [y])) _>>=_) _ _ _
     refine Zd (Zau (Zah (nof (ko _ _ _ _ _ yv y _ N2 g ⟨x,rx,qy⟩ (Jsj K λ k h3 u s3 H3 ι3 N3 n3 ru K3=>?_)))))
     have pC:=N3.inv.pin (C,Zap "list" #[vb,uk] c) (Zn _ (Zn _ (by simp)))
     have pI:=N3.inv.pin (I,oI) (Zn _ (Zn _ (by simp)))
     have N4:=N3.pins
     have hi3:=n3.at hi
     have g3:=hG _ _ n3.ext g
     have fI3:=FpOk.at (H':=H3) fI pI.2.1
     have fC3:=FpOk.at (H':=H3) fC pC.2.1
     have it3:s3.heap.IsListIter I l (j+1):=⟨oI,pI.1,hoc,hod⟩
     have ry3:RU X.K ι3 H3 yv y:=RU.mono n3 ⟨x,rx,qy⟩
     cases eg:gt k kb with
     | none=>rw[eg] at K3;exact Zf K3
     | some bb =>
      show Zx _ A.in1 (tryCatch (ZbR [y,u] (Zcz .Lt u uk>>=_)) _>>=_) _ _ _
      refine Zd (Zau (Zah (Zd (cm _ _ _ _ _ _ _ k kb u uk bb _ _ N4 ru (rk.mono n3) eg λ h5 t5 k5=>?_))))
      refine Zd (Zah (ZaT ?_))
      refine Zd (Zbb (Z0 ?_))
      have N5:=N4.keptH (h':=h5) (t':=t5) k5
      have gC5:=k5 _ _ pC.1
      obtain⟨oI5,hoI5,hoc5,hod5⟩:=id it3
      have it5:h5.IsListIter I l (j+1):=⟨oI5,k5 _ _ hoI5,hoc5,hod5⟩
      rw[eg] at K3
      cases bb with
      | true =>
       simp only[if_true]
       refine Zd ?_
       refine Zba gC5 rfl (Zd (Zbb ?_))
       rw[Jgz]
       have N6:=N5.turned (h':=h5.update C (Zan λ _=>#[y,u])) (t':=t5) fC3 λ b o hb e=>(Zw _ _ (ZQ hb)).trans e
       obtain⟨c2,hc2⟩:∃c2,(h5.update C (Zan λ _=>#[y,u])).get? C=Za (Zap "list" #[y,u] c2):=⟨_,Zcq gC5 λ _=>#[y,u]⟩
       refine Z0 ⟨Za4 ZR _,ih (j+1) _ H3 ι3 h3 yv k y u c2 (by omega) (by omega) (by omega) N6 g3 hi3 fI3 fC3 ?_ hc2 ry3 ru K3⟩
       exact⟨oI5,(Zw _ _ (ZQ hIC)).trans (k5 _ _ hoI5),hoc5,hod5⟩
      | false =>
       simp only[Zaa,if_false]
       refine Zd (Zbb ?_)
       rw[Jgz]
       exact Z0 ⟨Za4 ZR _,ih (j+1) _ H3 ι3 h3 b kb vb uk c (by omega) (by omega) (by omega) N5 g3 hi3 fI3 fC3 it5 gC5 (rb.mono n3) (rk.mono n3) K3⟩
    ·exact Zf K
   | _=>exact Zf K
theorem Jup (hh:A.handled=Zc)(cm:CmpK ce X A.in1 .Lt gt)(ko:Jtl ce X A.in1 σi σ pj G (.ref fq) mk)(hG:∀H H',Ext H H'->G H->G H')(N:Now ce X pj ι σi h σ H z)(g:G H)(hi:ι[i]?=Za l) 
  (K:Kont ce X RU pj ι σi σ H (X8 gt mk i h) Q E):Zx (Z8 X.prog X.w) A (call (.builtin "min") [.ref l] [(Za0 "key",.ref fq)]) Q E z:=by
 unfold X8 at K
 cases eh:h[i]? with
 | none=>rw[eh] at K;exact Zf K
 | some ob =>
  rw[eh] at K
  cases ob with
  | lst ys =>
   dsimp only at K
   obtain⟨ws,e1,r3⟩:=N.at eh hi
   obtain⟨its,rv2,pl,_⟩:=N.inv.list (SqL.of e1)
   have hl:=pl.isList
   obtain⟨ol,hol,_⟩:=id hl
   have lt:l<z.heap.objs.size:=Z1 hol
   have sz:its.toArray.size=ys.length:=by rw[Zu,<-rv2.length,r3.length]
   refine kmk_tree PySem.F.kind_min PySem.F.plain_min PySem.F.entry_min (kmk_min_key _ _) ?_
   show Zx _ A.in1 (Za7 "min" ["key","default"] 0 ⟨[],[(Za0 "key",.ref fq)]⟩>>=_) _ _ z
   refine Zd (wpAny_of_eq (show Za7 "min" ["key","default"] 0 ⟨[],[(Za0 "key",.ref fq)]⟩=pure [Za (.ref fq),Zc] from rfl) ?_)
   refine Zd (Z0 ?_)
   refine Zd (ZaU hl ?_)
   refine Zd (Zcj ?_ (ZX _))
   rw[Jgz]
   have ne:l≠z.heap.objs.size:=Z5 lt
   have W:=ZcN (prog:=X.prog) (w:=X.w) (A:=A.in1) hh z.heap.objs.size l ne its.toArray
   have hS:(z.heap.push { cls:=.type "list_iterator",data:=.fields #[.ref l,.int 0 0] }).objs.size=z.heap.objs.size+1:=ZdL ..
   obtain⟨C,hC⟩:∃C,C=(z.heap.push { cls:=.type "list_iterator",data:=.fields #[.ref l,.int 0 0] }).objs.size:=⟨_,rfl⟩
   have hIC:z.heap.objs.size≠C:=by rw[hC,hS];exact Z5 (Za2 _)
   have old:∀b o,z.heap.get? b=Za o->((z.heap.push { cls:=.type "list_iterator",data:=.fields #[.ref l,.int 0 0] }).push (Zap "list" #[] 0)).get? b=Za o:=λ b o e=>Zh _ (Zh _ e)
   have gI:((z.heap.push { cls:=.type "list_iterator",data:=.fields #[.ref l,.int 0 0] }).push (Zap "list" #[] 0)).get? z.heap.objs.size=Za { cls:=.type "list_iterator",data:=.fields #[.ref l,.int 0 0] }:=Zh _ (Z2 _ rfl)
   have gC:((z.heap.push { cls:=.type "list_iterator",data:=.fields #[.ref l,.int 0 0] }).push (Zap "list" #[] 0)).get? C=Za (Zap "list" #[] 0):=by rw[hC];exact Z2 _ rfl
   rw[<- hC]
   have fI:FpOk X pj H z.heap.objs.size:=N.inv.fpOk (Zo _) (N.inv.hok.fresh (Zo _))
   have fC:FpOk X pj H C:=N.inv.fpOk (by rw[hC,hS];exact ZaZ _) (N.inv.hok.fresh (by rw[hC,hS];exact ZaZ _))
   have N0:=N.keptH (t':=z.toks) old
   refine Z0 ⟨Za4 ZR _,Zar ZaV ?_⟩
   rw[Zab ZR _]
   show Zx _ A.in1 (Zcb (.ref _)>>=_) _ _ _
   refine Zd (Zbk gC rfl ?_)
   show Zx _ A.in1 (tryCatch (ZbU (.ref z.heap.objs.size)) _>>=_) _ _ _
   cases e0:ys[0]? with
   | none=>rw[e0] at K;exact Zf K
   | some yv =>
    have h0:0<ys.length:=(Zr.mp e0).1
    rw[e0] at K
    dsimp only at K
    refine Zd (Zau (W.item 0 _ _ _ (by rw[sz];exact h0) ⟨⟨_,gI,rfl,rfl⟩,(hl.push _).push _⟩ λ y h2 tk hP st2 keep=>?_))
    have ey:its[0]?=Za y:=by simpa using hP
    obtain⟨x,ex,rx⟩:=Jn0 rv2 ey
    obtain⟨yv',eyv,qy⟩:=r3.get' ex
    rw[e0] at eyv
    cases eyv
    have gC2:=keep C _ (λ q=>hIC (Zy.mp q).symm) gC
    have N1:=N0.turned (h':=h2) (t':=tk) fI λ b o hb e=>keep b o (λ q=>hb (Zy.mp q)) e
    obtain⟨oI,hoI,hoc,hod⟩:=id st2.1
    have N2:=(N1.pinO gC2 fC λ v z=>by cases z).pinO hoI (FpOk.more (p:=(C,Zap "list" #[] 0)) fI (ZQ hIC)) λ v z=>by rw[hod] at z;cases z
    rw[ZZ] at N2
    show Zx _ A.in1 (tryCatch (ZbR [y] (call (.ref fq) [y])) _>>=_) _ _ _
    refine Zd (Zau (Zah (nof (ko _ _ _ _ _ yv y _ N2 g ⟨x,rx,qy⟩ (Jsj K λ k h3 u s3 H3 ι3 N3 n3 ru K3=>?_)))))
    have pC:=N3.inv.pin (C,Zap "list" #[] 0) (Zn _ (Zn _ (by simp)))
    have pI:=N3.inv.pin (z.heap.objs.size,oI) (Zn _ (Zn _ (by simp)))
    have N4:=N3.pins
    have fI3:=FpOk.at (H':=H3) fI pI.2.1
    have fC3:=FpOk.at (H':=H3) fC pC.2.1
    have ry3:RU X.K ι3 H3 yv y:=RU.mono n3 ⟨x,rx,qy⟩
    show Zx _ A.in1 (Zd8 C (λ _=>#[y,u])>>=_) _ _ _
    refine Zd ?_
    refine Zba pC.1 rfl ?_
    rw[Jgz]
    have N6:=N4.turned (h':=s3.heap.update C (Zan λ _=>#[y,u])) (t':=s3.toks) fC3 λ b o hb e=>(Zw _ _ (ZQ hb)).trans e
    obtain⟨c2,hc2⟩:∃c2,(s3.heap.update C (Zan λ _=>#[y,u])).get? C=Za (Zap "list" #[y,u] c2):=⟨_,Zcq pC.1 λ _=>#[y,u]⟩
    refine Z0 ⟨Za4 ZR _,Juq hh cm ko hG (λ v s' q=>q) hIC (ys.length-1) 1 _ H3 ι3 h3 yv k y u c2 rfl (by omega) (by omega) N6 (hG _ _ n3.ext g) (n3.at hi) fI3 fC3 ?_ hc2 ry3 ru K3⟩
    exact⟨oI,(Zw _ _ (ZQ hIC)).trans pI.1,hoc,hod⟩
  | _=>exact Zf K
end
def X4 (gt:IV->IV->Option Bool)(q:Str)(j:Nat)(js:List Nat)(aa:A1)(m:E1):E1:=λ σ h=>(aa σ h).bind λ xs h1=>match h1[j]? with
 | some (.tab q')=>if q'=q then(match xs with
  | [.ref i]=>X8 gt (λ v h'=>m (Za v::js.map λ j=>(σ[j]?).join) h') i h1
  | _=>.stuck) else .stuck
 | _=>.stuck
theorem J0m {k:Nat}{q x:Str}{caps:List Str}{js:List Nat}{j:Nat}{a body:Expr}{aa:A1}{m:E1}{lt:IV->IV->Option Bool}{params:Zca}{scope:Zbi}{p lp pos kp:Pos}(hg:Gl X "min")(hm:X.mg "min"=Zc)(ha:PAi ce X [a] aa)(cm:∀A:ZO,A.units+64<Zeu->CmpK ce X A .Lt lt)(hs:ZG [a] X.env=[(Zj,Zbe a X.env)])
  (hr:Room (k+2) X.A)(hcd:W.codeIn X.K X.env.code q=Zg)(hq:X.env.qual=q++".<locals>.")(B:Q9 X.mg X.base)(hx:Vn params=Za x)(S:LamSc X.N X.env.scope.names x caps js scope)
  (hb:∀f cd s' H',PEi ce (cxL X X.A.in1 (x::caps) q scope f cd s' H') body m) :
  PEi ce X (.Call (.Name "min" p) [a] [⟨Za "key",.Lambda params body scope lp,kp⟩] pos) (X4 lt q j js aa m):=λ pj s σ H ι σi h Q E N K=>by
 have hcl:Zdo scope X.env=pure (clOf X.env.cells scope.names []):=Jbz λ y hm hk=>N.inv.ok.has y.1 (.inl (S.free y hm hk))
 refine Zak (QG N.inv hg hm rfl ?_)
 refine callWith_kw ?_ (by rw[hs];rfl) (by rw[hs];rfl) rfl rfl
 refine(ha pos).run N K λ xs h1 us s1 H1 ι1 N1 n1 r1 K1=>?_
 cases ej:h1[j]? with
 | none=>rw[ej] at K1;exact Zf K1
 | some ob =>
  rw[ej] at K1
  cases ob with
  | tab q' =>
   dsimp only at K1
   split at K1
   ·rename_i eq
    subst eq
    refine Zb1 (Zd (Joh N1 ej hcd hq (Jog hx) hcl B λ f c pm ctv s2 H2 N2 n2 LC=>Zd (Zb9 (Z0 ?_))))
    refine Zck ?_
    have K3:=Kont.more (pl:=[(f,lamO q' params body scope (clOf X.env.cells scope.names []) pm ctv c)]) (Kont.mono K1 n2)
    obtain⟨vs,rv,qs⟩:=r1.mono n2
    match xs,K3 with
    | [.ref i],K3 =>
     obtain⟨w,rfl,ad,rfl,hav⟩:=qs.one_of
     obtain⟨u,rfl,ru⟩:=Q0 rv
     cases ru
     refine Jup (G:=λ H=>QQ H q' (.ref c)) (mk:=λ v h'=>m (Za v::js.map λ j=>(σi[j]?).join) h') hr.hd (cm _ hr.in1.units) ?_ (λ H H' e g=>g.mono e.frzs) N2 LC hav ?_
     ·intro pl s4 H4 ι4 h4 v u Q4 N4 g4 ru4 K4
      have pf:=N4.inv.pin (f,lamO q' params body scope (clOf X.env.cells scope.names []) pm ctv c) (Zn _ (Zat _ (Zn _ (Zy.mpr rfl))))
      exact Jr6 (A:=X.A.in1) N.inv.ok.frames hr.in1 N4 pf.1 g4 hx S (hb f (.ref c)) ru4 K4
     ·exact K3
    | [],K3=>exact Zf K3
    | [.non],K3=>exact Zf K3
    | [.bl _],K3=>exact Zf K3
    | [.int _],K3=>exact Zf K3
    | [.str _],K3=>exact Zf K3
    | [.tup _],K3=>exact Zf K3
    | [.rol _],K3=>exact Zf K3
    | x::_::_,K3=>cases x<;>exact Zf K3
   ·exact Zf K1
  | _=>exact Zf K1
end
def ltL:List Int->List Int->Bool
 | a::as,b::bs=>if a=b then ltL as bs else decide (a<b)
 | _,_=>Zj
abbrev ivl (l:List (Int×Tok)):List Ze:=l.map λ p=>.int p.1 p.2
section
open PySem.AutoSeq1 (wpAny_loadPart')
open PySem.MeetsSeq PySem.MeetsSeq2 PySem.MeetsSeq3 PySem.SeqRoads2
theorem Jqn (l b:Zm)(as bs:List (Int×Tok))(hl:as.length=bs.length)(n n2:Nat)(dd dd2:Option Zm)(sl sl2:Array (Option Ze)) :
  Meets (Ze0.«tuple.__lt__» ⟨[.ref l,.ref b],[]⟩)
   (λ A R s=>s.heap.get? l=Za { cls:=.type "tuple",dict:=dd,data:=.seq (ivl as).toArray n,slots:=sl }/\s.heap.get? b=Za { cls:=.type "tuple",dict:=dd2,data:=.seq (ivl bs).toArray n2,slots:=sl2 } /\
    R (.ok (.ret (.bool (ltL (as.map (·.1)) (bs.map (·.1)))))) s) :=
 .of_wp λ prog w A R s h=>by
  obtain⟨hp,g,d,tk,os⟩:=s;obtain⟨ho,hb,h⟩:=h
  have f2:=AutoSeq1.sub_tuple_tuple
  wp_walk using Zcp ho,Zcp hb,wpAny_forIn_list _ (λ rest b s'=>b.1=Zc/\s'=⟨hp,g,d,tk,os⟩/\∃xs ys:List (Int×Tok),xs.length=ys.length/\rest=(ivl xs).zip (ivl ys) /\
   R (.ok (.ret (.bool (ltL (xs.map (·.1)) (ys.map (·.1)))))) ⟨hp,g,d,tk,os⟩) _
  case turn =>
   rintro⟨y,x⟩ rest b s' ⟨hb',rfl,xs,ys,ll,hz,hR⟩
   match xs,ys,ll,hz,hR with
   | p::xs,q::ys,ll,hz,hR =>
    injection hz with hyx hrest
    have hy:ZbQ p.1 p.2=y:=(congrArg Prod.fst hyx).symm
    have hx:ZbQ q.1 q.2=x:=(congrArg Prod.snd hyx).symm
    subst hy hx
    refine Zd (wpAny_eqBool_int ?_)
    by_cases e:p.1=q.1
    ·rw[beq_iff_eq.mpr e]
     wp_walk
     exact⟨rfl,rfl,xs,ys,by simpa using ll,hrest,by simpa [ltL,e] using hR⟩
    ·rw[beq_eq_false_iff_ne.mpr e]
     have cmp:=CmpOf.ints_lt (prog:=prog) (w:=w) (A:=A.in1) (P:=λ i v=>∃t,v=.int (if i=0 then p.1 else q.1) t) (λ i=>if i=0 then p.1 else q.1) (λ _ _ q=>q)
     have hc:∀(Q:QvT)(E:QvT)(s:Zl),Q (.bool (decide (p.1<q.1))) s->Zx (Z8 prog w) A.in1 (Zcz .Lt (.int p.1 p.2) (.int q.1 q.2)) Q E s:=λ Q E s h=>by
      have:=cmp 0 1 (.int p.1 p.2) (.int q.1 q.2) s Q E ⟨p.2,by simp⟩ ⟨q.2,by simp⟩
      simp only[if_true,show ¬(1:Nat)=0 by decide,if_false] at this
      exact this h
     show Zx _ A.in1 (rule _>>=λ _=>Zcz .Lt (.int p.1 p.2) (.int q.1 q.2)>>=λ v=>ret v>>=λ f=>pure (ForInStep.done (Za f,()))) _ _ _
     refine Zd (Zer (Zd (hc _ _ _ (Zd (Z0 (Z0 (Z0 ⟨_,rfl,?_⟩)))))))
     simpa [ltL,e] using hR
   | [],ys,ll,hz,hR=>cases hz
   | _::_,[],ll,hz,hR=>cases hz
  case fin =>
   rintro⟨b1,b2⟩ s' ⟨hb',rfl,xs,ys,ll,hz,hR⟩
   simp only at hb'
   subst hb'
   match xs,ys,ll,hz,hR with
   | [],[],_,_,hR =>
    wp_walk
    exact⟨_,rfl,by simpa [Builtin.Tuple.tupleCompareSizes,hl,ltL] using hR⟩
   | _::_,_::_,_,hz,_=>cases hz
  case h =>
   exact⟨rfl,rfl,as,bs,hl,by simp,h⟩
end
theorem Jhy:∀{us:List Ze}{ns:List Int},ZbA us ns->∃l:List (Int×Tok),us=ivl l/\l.map (·.1)=ns
 | [],[],_=>⟨[],rfl,rfl⟩
 | [],_::_,h=>by cases h
 | _::_,[],h=>by cases h
 | u::us,n::ns,h=>by
  cases h
  rename_i t r
  obtain⟨l,e1,e2⟩:=Jhy r
  exact⟨(n,t)::l,by rw[e1];rfl,by rw[<- e2];rfl⟩
def ltT:IV->IV->Option Bool
 | .tup xs,.tup ys=>(match JP xs,JP ys with
  | some as,Za bs=>if as.length=bs.length then Za (ltL as bs) else Zc
  | _,_=>Zc)
 | _,_=>Zc
section
variable {ce:CeT}{X:Cx}
theorem Jwn {A:ZO}(hu:A.units<Zeu)(N:Now ce X pj ι σi h σ H s)(r:RU X.K ι H k u)(rb:RU X.K ι H kb ub)(e:ltT k kb=Za b)(q:Q (.bool b) s):Zx (Z8 X.prog X.w) A (Zcz .Lt u ub) Q E s:=by
 cases k with
 | tup xs =>
  cases kb with
  | tup ys =>
   obtain⟨x,rx,a,vs,rfl,sa,ra⟩:=r
   obtain⟨y,ry,c,ws,rfl,sc,rc⟩:=rb
   have ru:u=.ref a:=rx
   have rub:ub=.ref c:=ry
   subst ru rub
   unfold ltT at e
   dsimp only at e
   cases e1:JP xs with
   | none=>rw[e1] at e;cases e
   | some as =>
    cases e2:JP ys with
    | none=>rw[e1,e2] at e;cases e
    | some bs =>
     rw[e1,e2] at e
     dsimp only at e
     split at e
     ·rename_i hl
      cases e
      obtain⟨its,v1,⟨⟨cls,dd,data,sl⟩,ho,hc,n,hd⟩,_⟩:=N.inv.tuple sa
      obtain⟨jts,v2,⟨⟨cls2,dd2,data2,sl2⟩,ho2,hc2,n2,hd2⟩,_⟩:=N.inv.tuple sc
      simp only at hc hd hc2 hd2
      subst hc hd hc2 hd2
      obtain⟨l,rfl,rfl⟩:=Jhy (V9 e1 ra v1)
      obtain⟨m,rfl,rfl⟩:=Jhy (V9 e2 rc v2)
      exact richCompare_meets_room (op:=.Lt) ⟨_,ho,rfl⟩ ⟨_,ho2,rfl⟩ PySem.F.slot_tuple_lt PySem.F.entry_tuple_lt (PySem.F.args_tuple_lt_2 _ _) (Jqn a c l m (by simpa using hl) n n2 dd dd2 sl sl2)
       ⟨ho,ho2,show ZcH (ltL (l.map (·.1)) (m.map (·.1)))≠Value.notImplemented/\Q (.bool (ltL (l.map (·.1)) (m.map (·.1)))) s from⟨(λ x=>nomatch x),q⟩⟩ hu
     ·cases e
  | _=>cases e
 | _=>cases e
theorem Jxm {A:ZO}(hu:A.units<Zeu):CmpK ce X A .Lt ltT:=λ _ _ _ _ _ _ s _ _ _ _ _ _ _ N r rb e q=>Jwn hu N r rb e (q s.heap s.toks λ _ _ e=>e)
def cLtX (x y:IV)(h:IH):Res IV:=match ltT x y with
 | some b=>.ok (.bl b) h
 | none=>cLt x y h
theorem J3n (hu:X.A.units<Zeu):OpI ce X (Zav .Lt) cLtX:=by
 intro pj s σ H ι σi h x y v u Q E N rx ry K
 unfold cLtX at K
 cases e:ltT x y with
 | some b =>
  rw[e] at K
  exact Jwn hu N rx ry e (fin0 N K rfl _ s N.inv rfl)
 | none =>
  rw[e] at K
  exact o_lt pj s σ H ι σi h x y v u Q E N rx ry K
end
section
variable {pr:ZA}{wd:ZW}{B:ZO}{R:ZdG->Zl->Prop}{it:Zm}{fps wrs:List Zm}{n:Nat}{St:Nat->Zas->Prop}
end
section
variable {pr:ZA}{wd:ZW}{B:ZO}{E:QvT}{z:Zl}{l:Zm}{us:List Ze}{k:Nat}{f:Nat->List Int}{Q:QvT}
end
section
variable {ce:CeT}{X:Cx}
end
end L3
namespace L3
open PySem PySem.Spec PyProof.Rows L2 PySem.W
def Jy {α:Type}(lt:Nat->Nat->Bool):KasT α->α
 | .ret a=>a
 | .ask i j k=>Jy lt (k (lt i j))
def Asks {α:Type}(n:Nat)(P:α->Prop):KasT α->Prop
 | .ret a=>P a
 | .ask i j k=>i<n/\j<n/\∀b,Asks n P (k b)
theorem Asks.mono {α:Type}{n:Nat}{P P':α->Prop}(f:∀a,P a->P' a):∀{t:KasT α},Asks n P t->Asks n P' t
 | .ret _,h=>f _ h
 | .ask _ _ _,⟨h1,h2,h3⟩=>⟨h1,h2,λ b=>Asks.mono f (h3 b)⟩
theorem Asks.bind {α β:Type}{n:Nat}{P:α->Prop}{P':β->Prop}{f:α->KasT β}(hf:∀a,P a->Asks n P' (f a)):∀{t:KasT α},Asks n P t->Asks n P' (t.bind f)
 | .ret _,h=>hf _ h
 | .ask _ _ _,⟨h1,h2,h3⟩=>⟨h1,h2,λ b=>Asks.bind hf (h3 b)⟩
theorem Asks.run:∀{t:KasT α},Asks n P t->P (Jy lt t)
 | .ret _,h=>h
 | .ask i j k,⟨_,_,h⟩=>Asks.run (t:=k (lt i j)) (h (lt i j))
theorem Asks.wp {α:Type}{P:α->Prop}{Q:α->Zl->Prop}(hc:∀i j,i<n->j<n->∀C:Bool->Zl->Prop,C (lt i j) s->cmp i j C s) :
  ∀{t:KasT α},Asks n P t->Q (Jy lt t) s->t.kasWp cmp Q s
 | .ret _,_,q=>q
 | .ask i j k,⟨h1,h2,h3⟩,q=>hc i j h1 h2 _ (Asks.wp (t:=k (lt i j)) hc (h3 (lt i j)) q)
def Bd (n:Nat)(p:Array Nat):Prop:=0<n/\p.toList.Perm (ZN n)
theorem Bd.at (h:Bd n p)(i:Nat):p.getD i 0<n:=by
 by_cases hi:i<p.size
 ·rw[ZaS,Zcd hi]
  have:p[i]∈p.toList:=by simp
  exact Zal.mp (h.2.mem_iff.mp this)
 ·rw[ZaS,Array.getElem?_eq_none (by omega)]
  exact h.1
theorem Jjf {n:Nat}{p:Array Nat}(h:Bd n p):∀f m,Asks n (λ _=>True) (ZbL p f m)
 | 0,_=>trivial
 | f+1,m=>⟨h.at _,h.at _,λ b=>by
   dsimp only
   split
   ·trivial
   ·exact Jjf h f _⟩
theorem Jfu {n:Nat}{p:Array Nat}(h:Bd n p)(k:Nat):∀f l r,Asks n (λ _=>True) (Zdh p k f l r)
 | 0,_,_=>trivial
 | f+1,l,r=>by
  unfold Zdh
  split
  ·trivial
  ·exact⟨h.at _,h.at _,λ b=>by
    dsimp only
    split
    ·exact Jfu h k f _ _
    ·exact Jfu h k f _ _⟩
theorem Bd.perm {p q:Array Nat}(h:Bd n p)(r:q.Perm p):Bd n q:=⟨h.1,(Array.perm_iff_toList_perm.mp r).trans h.2⟩
theorem Bd.rev (h:Bd n p)(i j:Nat):Bd n (ZbC p i j):=h.perm (mirror_perm _ _ _ _)
theorem Jei:∀f (p:Array Nat) m q,Bd n p->Asks n (λ r=>Bd n r.1) (ZcS f p m q)
 | 0,_,_,_,h=>h
 | f+1,p,m,q,h=>⟨h.at _,h.at _,λ b=>by
   dsimp only
   split
   ·split
    ·exact Jei f _ _ _ (h.rev _ _)
    ·exact Jei f _ _ _ h
   ·exact⟨h.at _,h.at _,λ d=>by
     dsimp only
     split
     ·exact h
     ·exact Jei f _ _ _ h⟩⟩
theorem Ji3 {n:Nat}{p:Array Nat}(h:Bd n p)(m r:Nat):Asks n (λ r=>Bd n r.2) (Zeg m r p):=by
 unfold Zeg
 refine Asks.bind (P:=λ _=>True) (λ x _=>?_) (Jjf (h.rev _ _) _ _)
 exact h.rev _ _
theorem Jej {n:Nat}{p:Array Nat}(h:Bd n p)(m r:Nat):Asks n (λ r=>Bd n r.2) (ZcC m r p) :=
 Asks.bind (λ x hx=>by
  split
  ·exact Ji3 (hx.rev _ _) _ _
  ·exact Ji3 hx _ _) (Jei _ _ _ _ h)
theorem Jpq {n:Nat}{p:Array Nat}(h:Bd n p)(r:Nat):Asks n (λ r=>Bd n r.2) (Zd9 r p) :=
 Asks.bind (λ m _=>by
  split
  ·exact h
  ·split
   ·exact⟨h.at _,h.at _,λ b=>by
     dsimp only
     split
     ·exact h
     ·exact Jej (h.rev _ _) _ _⟩
   ·exact Jej h _ _) (Jjf h _ _)
theorem Jn4 {n:Nat}:∀f (p:Array Nat) k,Bd n p->Asks n (Bd n) (kas_bin f p k)
 | 0,_,_,h=>h
 | f+1,p,k,h=>Asks.bind (λ l _=>Jn4 f _ _ (h.perm (bubble_perm _ _ _))) (Jfu h k _ _ _)
theorem Jhb {n:Nat}(hn:0<n):Asks n (Bd n) (ZbP n) :=
 Asks.bind (λ r hr=>by
  split
  ·exact Jn4 _ _ _ hr
  ·exact hr) (Jpq ⟨hn,List.Perm.refl _⟩ n)
section
variable {prog:ZA}{w:ZW}{A:ZO}{E:QvT}{s:Zl}{b:Bool}{Q:Bool->Zl->Prop}
end
theorem Jvf (vs:List Ze)(h:vs.length<2):(Jy lt (ZbP vs.length)).toList.map (λ i=>vs.getD i ZV)=vs:=by
 match vs,h with
 | [],_=>simp[ZbP,Zd9,ZbL,KasT.bind,ZcC,ZcS,Zeg,Jy,ZbC,mirror,Array.swapIfInBounds]
 | [v],_ =>
  have:=(Jhb (n:=1) (by decide)).run (lt:=lt)
  have e:(Jy lt (ZbP 1)).toList=[0]:=List.perm_singleton.mp this.2
  show(Jy lt (ZbP 1)).toList.map _=_
  rw[e]
  rfl
 | _::_::_,h=>simp at h;omega
section
variable {prog:ZA}{w:ZW}{A:ZO}{E:QvT}{s:Zl}
end
theorem Jmv (r:Vals vs us):∀p:List Nat,(∀i∈p,i<vs.length)->Vals (p.map λ i=>vs.getD i .non) (p.map λ i=>us.getD i ZV)
 | [],_=>.nil
 | i::p,h=>by
  have hi:=h i (Z7 ..)
  obtain⟨u,eu,ru⟩:=r.get (Zb hi)
  refine .cons ?_ (Jmv r p λ j hj=>h j (Zp _ hj))
  show L2.RelV (vs.getD i .non) (us.getD i ZV)
  rw[Zk,Zk,Zb hi,eu]
  exact ru
theorem Jor {K:W.Frag}{ι:List Zm}{H:Hp}{xs:List IV}{vs:List V}(r:RVs K ι H xs vs):∀p:List Nat,(∀i∈p,i<xs.length)->RVs K ι H (p.map λ i=>xs.getD i .non) (p.map λ i=>vs.getD i .non)
 | [],_=>rfl
 | i::p,h=>by
  have hi:=h i (Z7 ..)
  obtain⟨v,ev,rv⟩:=r.get (Zb hi)
  refine⟨_,_,rfl,?_,Jor r p λ j hj=>h j (Zp _ hj)⟩
  show RV K ι H (xs.getD i .non) (vs.getD i .non)
  rw[Zk,Zk,Zb hi,ev]
  exact rv
section
variable {ce:CeT}{X:Cx}
end
theorem X7 {α β:Type}{lt:Nat->Nat->Bool}{f:α->KasT β}:∀(t:KasT α),Jy lt (t.bind f)=Jy lt (f (Jy lt t))
 | .ret _=>rfl
 | .ask i j k=>X7 (k (lt i j))
section
variable {kf:Nat->Int}{p:Array Nat}{n i j:Nat}
abbrev ltF (kf:Nat->Int)(i j:Nat):Bool:=decide (kf i<kf j)
def kAt (kf:Nat->Int)(p:Array Nat)(i:Nat):Int:=kf (p.getD i 0)
def Ris (kf:Nat->Int)(p:Array Nat)(n:Nat):Prop:=∀i j,i<=j->j<n->kAt kf p i<=kAt kf p j
def Fal (kf:Nat->Int)(p:Array Nat)(n:Nat):Prop:=∀i j,i<=j->j<n->kAt kf p j<=kAt kf p i
theorem Yu (h:p[i]?=q[j]?):kAt kf p i=kAt kf q j:=by
 unfold kAt
 rw[ZaS,ZaS,h]
theorem Jnf (hj:j<=p.size)(m:Nat):kAt kf (ZbC p i j) m=if i<=m/\m<j then kAt kf p (i+j-1-m) else kAt kf p m:=by
 have e:=getElem?_mirror_all (i:=i) hj m
 split at e
 ·rename_i c;rw[if_pos c];exact Yu e
 ·rename_i c;rw[if_neg c];exact Yu e
theorem Jr1 (hs:k<p.size)(hd:d<=k)(m:Nat):kAt kf (bubble p k d) m=if m=k-d then kAt kf p k else if k-d<m/\m<=k then kAt kf p (m-1) else kAt kf p m:=by
 have e:=getElem?_bubble hs d hd m
 split at e
 ·rename_i c;rw[if_pos c];exact Yu e
 ·rename_i c
  rw[if_neg c]
  split at e
  ·rename_i c;rw[if_pos c];exact Yu e
  ·rename_i c;rw[if_neg c];exact Yu e
theorem Jf3 (hj:j<=p.size)(h:∀m,i<=m->m<j->kAt kf p m=kAt kf p (j-1))(m:Nat):kAt kf (ZbC p i j) m=kAt kf p m:=by
 rw[Jnf hj]
 split
 ·rw[h _ (by omega) (by omega),h m (by omega) (by omega)]
 ·rfl
theorem Ris.succ (h:Ris kf p n)(h1:1<=n)(q:kAt kf p (n-1)<=kAt kf p n):Ris kf p (n+1):=λ i j hij hj=>by
 by_cases e:j<n
 ·exact h i j hij e
 ·obtain rfl:j=n:=by omega
  by_cases e2:i=j
  ·subst e2;exact ZaB _
  ·exact Zb6 (h i (j-1) (by omega) (by omega)) q
theorem Fal.succ (h:Fal kf p n)(h1:1<=n)(q:kAt kf p n<=kAt kf p (n-1)):Fal kf p (n+1):=λ i j hij hj=>by
 by_cases e:j<n
 ·exact h i j hij e
 ·obtain rfl:j=n:=by omega
  by_cases e2:i=j
  ·subst e2;exact ZaB _
  ·exact Zb6 q (h i (j-1) (by omega) (by omega))
theorem Jno:∀(f n:Nat),1<=n->Ris kf p n->n<=Jy (ltF kf) (ZbL p f n)/\Jy (ltF kf) (ZbL p f n)<=n+f/\Ris kf p (Jy (ltF kf) (ZbL p f n))/\(Jy (ltF kf) (ZbL p f n)=n+f∨kAt kf p (Jy (ltF kf) (ZbL p f n))<kAt kf p (Jy (ltF kf) (ZbL p f n)-1))
 | 0,n,_,h=>⟨Zo _,Zo _,h,.inl rfl⟩
 | f+1,n,h1,h=>by
  show n<=Jy (ltF kf) (if decide (kAt kf p n<kAt kf p (n-1))=Zg then .ret n else ZbL p f (n+1))/\_
  have e:Jy (ltF kf) (ZbL p (f+1) n)=Jy (ltF kf) (if decide (kAt kf p n<kAt kf p (n-1))=Zg then .ret n else ZbL p f (n+1)):=rfl
  rw[e]
  split
  ·rename_i c
   exact⟨Zo _,by show n<=_;omega,h,.inr (of_decide_eq_true c)⟩
  ·rename_i c
   have c:¬kAt kf p n<kAt kf p (n-1):=by simpa using c
   obtain⟨a,b,d,g⟩:=Jno f (n+1) (by omega) (h.succ h1 (by omega))
   exact⟨by omega,by omega,d,g.imp (λ z=>by omega) id⟩
structure Dn (kf:Nat->Int)(p:Array Nat)(n q:Nat):Prop where
 f:Fal kf p n
 q1:q+1<=n
 e:∀m,n-(q+1)<=m->m<n->kAt kf p m=kAt kf p (n-1)
theorem Jg2:∀(f:Nat)(p:Array Nat)(n q:Nat),p.size=z->n+f<=z->Dn kf p n q->∀r,Jy (ltF kf) (ZcS f p n q)=r->r.1.size=z/\n<=r.2.1/\r.2.1<=n+f/\Dn kf r.1 r.2.1 r.2.2
 | 0,p,n,q,hz,hf,d,r,e=>by subst e;exact⟨hz,Zo _,Zo _,d⟩
 | f+1,p,n,q,hz,hf,d,r,e=>by
  have dq:=d.q1
  have e':Jy (ltF kf) (if decide (kAt kf p n<kAt kf p (n-1))=Zg then(if q>0 then ZcS f (ZbC p (n-(q+1)) n) (n+1) 0 else ZcS f p (n+1) 0)
   else .ask (p.getD (n-1) 0) (p.getD n 0) λ d=>if d=Zg then .ret (p,n,q) else ZcS f p (n+1) (q+1))=r:=e
  split at e'
  ·rename_i c
   have c:kAt kf p n<kAt kf p (n-1):=by simpa using c
   split at e'
   ·have same:=λ m=>Jf3 (kf:=kf) (i:=n-(q+1)) (j:=n) (p:=p) (by omega) d.e m
    have d2:Dn kf (ZbC p (n-(q+1)) n) (n+1) 0:=by
     refine⟨λ i j hij hj=>?_,by omega,λ m h1 h2=>by rw[show m=n+1-1 by omega]⟩
     rw[same,same]
     exact d.f.succ (by omega) (by omega) i j hij hj
    obtain⟨a1,a2,a3,a4⟩:=Jg2 f _ (n+1) 0 ((ZcT _ _ _ _).trans hz) (by omega) d2 r e'
    exact⟨a1,by omega,by omega,a4⟩
   ·have d2:Dn kf p (n+1) 0:=⟨d.f.succ (by omega) (by omega),by omega,λ m h1 h2=>by rw[show m=n+1-1 by omega]⟩
    obtain⟨a1,a2,a3,a4⟩:=Jg2 f _ (n+1) 0 hz (by omega) d2 r e'
    exact⟨a1,by omega,by omega,a4⟩
  ·rename_i c
   have c:¬kAt kf p n<kAt kf p (n-1):=by simpa using c
   have e'':Jy (ltF kf) (if decide (kAt kf p (n-1)<kAt kf p n)=Zg then .ret (p,n,q) else ZcS f p (n+1) (q+1))=r:=e'
   split at e''
   ·subst e''
    exact⟨hz,Zo _,by show n<=_;omega,d⟩
   ·rename_i c2
    have c2:¬kAt kf p (n-1)<kAt kf p n:=by simpa using c2
    have d2:Dn kf p (n+1) (q+1):=by
     refine⟨d.f.succ (by omega) (by omega),by omega,λ m h1 h2=>?_⟩
     by_cases em:m=n
     ·subst em;rfl
     ·rw[d.e m (by omega) (by omega)]
      show _=kAt kf p n
      omega
    obtain⟨a1,a2,a3,a4⟩:=Jg2 f _ (n+1) (q+1) hz (by omega) d2 r e''
    exact⟨a1,by omega,by omega,a4⟩
theorem Jl8 {m r:Nat}(h1:1<=m)(hm:m<=r)(hr:r<=p.size)(h:Fal kf p m):∀x,Jy (ltF kf) (Zeg m r p)=x->x.2.size=p.size/\1<=x.1/\x.1<=r/\Ris kf x.2 x.1:=by
 intro x e
 have e:Jy (ltF kf) ((ZbL (ZbC p 0 m) (r-m) m).bind λ k=>.ret (k,ZbC p 0 m))=x:=e
 rw[X7] at e
 have rs:Ris kf (ZbC p 0 m) m:=λ i j hij hj=>by
  rw[Jnf (by omega),Jnf (by omega),if_pos (by omega),if_pos (by omega)]
  exact h _ _ (by omega) (by omega)
 obtain⟨a,b,c,_⟩:=Jno (r-m) m h1 rs
 subst e
 exact⟨ZcT _ _ _ _,by show 1<=Jy (ltF kf) (ZbL (ZbC p 0 m) (r-m) m);omega,by show Jy (ltF kf) (ZbL (ZbC p 0 m) (r-m) m)<=r;omega,c⟩
theorem Jgh {m r:Nat}(hm:m+1<=r)(hr:r<=p.size)(h:Fal kf p (m+1)):∀x,Jy (ltF kf) (ZcC m r p)=x->x.2.size=p.size/\1<=x.1/\x.1<=r/\Ris kf x.2 x.1:=by
 intro x e
 unfold ZcC at e
 rw[X7] at e
 obtain⟨a1,a2,a3,a4⟩:=Jg2 (z:=p.size) (r-(m+1)) p (m+1) 0 rfl (by omega) ⟨h,by omega,λ k h1 h2=>by rw[show k=m+1-1 by omega]⟩ _ rfl
 generalize Jy (ltF kf) (ZcS (r-(m+1)) p (m+1) 0)=y at a1 a2 a3 a4 e
 have q1:=a4.q1
 split at e
 ·have same:=λ k=>Jf3 (kf:=kf) (i:=y.2.1-(y.2.2+1)) (j:=y.2.1) (p:=y.1) (by omega) a4.e k
  have:=Jl8 (m:=y.2.1) (r:=r) (p:=ZbC y.1 (y.2.1-(y.2.2+1)) y.2.1) (by omega) (by omega) (by show r<=(mirror _ _ _ _).size;rw[ZcT];omega) (λ i j hij hj=>by rw[same,same];exact a4.f i j hij hj) x e
  rw[show(ZbC y.1 (y.2.1-(y.2.2+1)) y.2.1).size=y.1.size from ZcT _ _ _ _,a1] at this
  exact this
 ·have:=Jl8 (m:=y.2.1) (r:=r) (p:=y.1) (by omega) (by omega) (by omega) a4.f x e
  rw[a1] at this
  exact this
theorem Jst {r:Nat}(h1:1<=r)(hr:r<=p.size):∀x,Jy (ltF kf) (Zd9 r p)=x->x.2.size=p.size/\1<=x.1/\x.1<=r/\Ris kf x.2 x.1:=by
 intro x e
 unfold Zd9 at e
 rw[X7] at e
 obtain⟨a,b,c,d⟩:=Jno (kf:=kf) (p:=p) (r-1) 1 (Zo _) (λ i j hij hj=>by
  obtain rfl:j=0:=by omega
  obtain rfl:i=0:=by omega
  exact ZaB _)
 generalize Jy (ltF kf) (ZbL p (r-1) 1)=n at a b c d e
 split at e
 ·subst e;exact⟨rfl,a,by show n<=r;omega,c⟩
 ·rename_i hn
  have hn:n≠r:=by simpa using hn
  have dn:kAt kf p n<kAt kf p (n-1):=d.resolve_left (by omega)
  split at e
  ·have e':Jy (ltF kf) (if decide (kAt kf p 0<kAt kf p (n-1))=Zg then .ret (n,p) else ZcC n r (ZbC p 0 n))=x:=e
   split at e'
   ·subst e';exact⟨rfl,a,by show n<=r;omega,c⟩
   ·rename_i cc
    have cc:¬kAt kf p 0<kAt kf p (n-1):=by simpa using cc
    have al:∀m,0<=m->m<n->kAt kf p m=kAt kf p (n-1):=λ m _ hm=>by
     have:=c 0 m (by omega) hm
     have:=c m (n-1) (by omega) (by omega)
     omega
    have same:=λ k=>Jf3 (kf:=kf) (i:=0) (j:=n) (p:=p) (by omega) al k
    have:=Jgh (m:=n) (r:=r) (p:=ZbC p 0 n) (by omega) (by show r<=(mirror _ _ _ _).size;rw[ZcT];omega) (λ i j hij hj=>by
     rw[same,same]
     by_cases ej:j<n
     ·rw[al i (by omega) (by omega),al j (by omega) ej];exact ZaB _
     ·obtain rfl:j=n:=by omega
      by_cases ei:i=j
      ·subst ei;exact ZaB _
      ·rw[al i (by omega) (by omega)];omega) x e'
    rw[show(ZbC p 0 n).size=p.size from ZcT _ _ _ _] at this
    exact this
  ·obtain rfl:n=1:=by omega
   refine Jgh (m:=1) (r:=r) (p:=p) (by omega) hr (λ i j hij hj=>?_) x e
   have dn:kAt kf p 1<kAt kf p 0:=dn
   match i,j with
   | 0,0=>exact ZaB _
   | 0,1=>omega
   | 1,1=>exact ZaB _
   | _,j+2=>omega
   | i+2,_=>omega
   | 1,0=>omega
theorem Jh9 (h:Ris kf p k):∀(f l r:Nat),r<=k->l<=r->r-l<=f->(∀i,i<l->kAt kf p i<=kAt kf p k)->(∀i,r<=i->i<k->kAt kf p k<kAt kf p i)->∀x,Jy (ltF kf) (Zdh p k f l r)=x->x<=k/\(∀i,i<x->kAt kf p i<=kAt kf p k)/\∀i,x<=i->i<k->kAt kf p k<kAt kf p i
 | 0,l,r,hr,hl,hf,h1,h2,x,e=>by
  obtain rfl:l=r:=by omega
  subst e
  exact⟨hr,h1,h2⟩
 | f+1,l,r,hr,hl,hf,h1,h2,x,e=>by
  unfold Zdh at e
  split at e
  ·obtain rfl:l=r:=by omega
   subst e
   exact⟨hr,h1,h2⟩
  ·have e':Jy (ltF kf) (if decide (kAt kf p k<kAt kf p ((l+r)/2))=Zg then Zdh p k f l ((l+r)/2) else Zdh p k f ((l+r)/2+1) r)=x:=e
   split at e'
   ·rename_i c
    have c:kAt kf p k<kAt kf p ((l+r)/2):=by simpa using c
    exact Jh9 h f _ _ (by omega) (by omega) (by omega) h1 (λ i a b=>Int.lt_of_lt_of_le c (h _ _ a b)) x e'
   ·rename_i c
    have c:¬kAt kf p k<kAt kf p ((l+r)/2):=by simpa using c
    exact Jh9 h f _ _ hr (by omega) (by omega) (λ i a=>Zb6 (h i _ (show i<=(l+r)/2 by omega) (by omega)) (by omega)) h2 x e'
theorem Jss:∀(f:Nat)(p:Array Nat)(k:Nat),k+f<=p.size->Ris kf p k->∀x,Jy (ltF kf) (kas_bin f p k)=x->Ris kf x (k+f)
 | 0,p,k,_,h,x,e=>by subst e;exact h
 | f+1,p,k,hk,h,x,e=>by
  unfold kas_bin at e
  rw[X7] at e
  obtain⟨a,b,c⟩:=Jh9 h k 0 k (Zo _) (ZX _) (Zo _) (λ i q=>by omega) (λ i q r=>by omega) _ rfl
  generalize Jy (ltF kf) (Zdh p k k 0 k)=l at a b c e
  have:=Jss f (bubble p k (k-l)) (k+1) (by rw[bubble_size];omega) (λ i j hij hj=>by
   have ed:k-(k-l)=l:=by omega
   rw[Jr1 (by omega) (by omega),Jr1 (by omega) (by omega),ed]
   split
   ·rename_i ei
    split
    ·exact ZaB _
    ·split
     ·exact Int.le_of_lt (c _ (by omega) (by omega))
     ·omega
   ·split
    ·rename_i n1 y
     split
     ·omega
     ·split
      ·exact h _ _ (by omega) (by omega)
      ·omega
    ·split
     ·exact b i (by omega)
     ·split
      ·exact h _ _ (by omega) (by omega)
      ·exact h _ _ hij (by omega)) x e
  rwa [show k+(f+1)=k+1+f by omega]
theorem Juz {n:Nat}(hn:0<n):Ris kf (Jy (ltF kf) (ZbP n)) n:=by
 unfold ZbP
 rw[X7]
 have hz:(ZaO (ZN n)).size=n:=by simp
 obtain⟨a,b,c,d⟩:=Jst (kf:=kf) (p:=ZaO (ZN n)) (r:=n) (by omega) (by rw[hz];exact Zo _) _ rfl
 generalize Jy (ltF kf) (Zd9 n (ZaO (ZN n)))=y at a b c d
 rw[hz] at a
 split
 ·have em:max y.1 1=y.1:=by omega
  rw[em]
  have:=Jss (kf:=kf) (n-y.1) y.2 y.1 (by omega) d _ rfl
  rwa [show y.1+(n-y.1)=n by omega] at this
 ·obtain e:y.1=n:=by omega
  rw[<- e]
  exact d
end
def ordK (ks:List Int)(n:Nat):List Nat:=(Jy (ltF λ i=>ks.getD i 0) (ZbP n)).toList
theorem Jh5 (ks:List Int)(hn:0<n):(ordK ks n).Perm (ZN n):=((Jhb hn).run (lt:=ltF λ i=>ks.getD i 0)).2
theorem Jg0 (ks:List Int):ordK ks 0=[]:=by simp[ordK,ZbP,Zd9,ZbL,KasT.bind,ZcC,ZcS,Zeg,Jy,ZbC,mirror,Array.swapIfInBounds]
theorem Y0 (ks:List Int):∀i∈ordK ks n,i<n:=by
 intro i hi
 rcases Zdp n with e|e
 ·subst e
  rw[Jg0] at hi
  cases hi
 ·exact Zal.mp ((Jh5 ks e).mem_iff.mp hi)
theorem Jon (ks:List Int)(n:Nat):(ordK ks n).length=n:=by
 rcases Zdp n with e|e
 ·subst e
  rw[Jg0]
  rfl
 ·rw[(Jh5 ks e).length_eq,Zbm]
theorem Jut (ks:List Int)(n:Nat):(ordK ks n).Pairwise λ i j=>ks.getD i 0<=ks.getD j 0:=by
 rcases Zdp n with e|e
 ·subst e
  rw[Jg0]
  exact .nil
 ·have r:=Juz (kf:=λ i=>ks.getD i 0) e
  have l:=Jon ks n
  rw[Zdt]
  intro i j hi hj hij
  have:=r i j (by omega) (by omega)
  have g:∀(m:Nat)(hm:m<(ordK ks n).length),(Jy (ltF λ i=>ks.getD i 0) (ZbP n)).getD m 0=(ordK ks n)[m]:=λ m hm=>by
   have hm':m<(Jy (ltF λ i=>ks.getD i 0) (ZbP n)).size:=by rw[<- ZaW];exact hm
   rw[ZaS,Zcd hm']
   rfl
  unfold kAt at this
  rw[g i hi,g j hj] at this
  exact this
theorem Jru {X:Cx}{pj:PnT}{σ:L2.St}{H:Hp}{s:Zl}{h':Zas}{t':Nat}{it:Zm}{o:HO}(I:Inv X pj σ H s)(k:∀b u,b≠it->s.heap.get? b=Za u->h'.get? b=Za u)(F:FpOk X pj H it)(new:JM X.prog X.w (upd H it o) h' it o) :
  Inv X pj σ (upd H it o) { s with heap:=h',toks:=t' }:=by
 obtain⟨hn,hL,_,h1,h2,h3⟩:=F
 have nit:∀b u,H b=Za u->b≠it:=λ b u e z=>by rw[z,hn] at e;cases e
 refine I.step (g':=s.gens) (d':=s.drawn) (ch:=[it]) (λ b hb=>?_) (λ b o _ _ hc e _=>k b o (λ z=>hc (by simp[z])) e) (λ b o _ _ hc e _=>⟨o.slots,k b o (λ z=>hc (by simp[z])) e⟩) (λ b o hc _ n=>by rw[Jr (λ z=>hc (by simp[z]))];exact n)
  (λ b o hc e=>⟨o,k b o (λ z=>hc (by simp[z])) e⟩) (λ b _ e=>by rw[Jr (nit b _ e)];exact e) (λ b _ _ e=>by rw[Jr (nit b _ e)];exact e) (λ b ps e=>⟨#[],by rw[Jr (nit b _ e),e];simp⟩) (λ m hm=>?_) (λ b u e=>?_) I.bare
 ·have e:b=it:=by simpa using hb
  subst e
  exact⟨h1,hL,h2,h3⟩
 ·obtain⟨o,es,ep,ho,r⟩:=hm
  exact⟨o,es,ep,k _ o (ZQ hL) ho,r⟩
 ·by_cases hb:b=it
  ·subst hb
   rw[J7] at e
   cases e
   exact new
  ·rw[Jr hb] at e
   refine(I.hok b u e).stay (λ c v hc q=>k c v ?_ q) (λ c q=>by rw[Jr (nit c _ q)];exact q) λ c _ q=>by rw[Jr (nit c _ q)];exact q
   rcases hc with z|z
   ·rw[z];exact hb
   ·exact nit c _ z
def QE (mk:IV->IH->Res IV):List IV->List Int->IH->Res (List Int)
 | [],ks,h=>.ok ks h
 | y::r,ks,h=>(mk y h).nx.bind λ k h'=>match k with
  | .int n=>QE mk r (ks++[n]) h'
  | _=>.stuck
def rvB {α:Type}(b:Bool)(l:List α):List α:=if b then l.reverse else l
theorem QW {α:Type}{b:Bool}{l:List α}:(rvB b l).length=l.length:=by cases b;rfl;exact Zcf
def Y4 (b:Bool)(ys:List IV)(ks:List Int)(h:IH):Res IV:=.ok (.ref h.length) (h++[.lst (rvB b ((ordK ks ys.length).map λ i=>ys.getD i .non))])
def XR (b:Bool)(ys:List IV)(ks:List Int)(h:IH):Res IV:=Y4 b (rvB b ys) (rvB b ks) h
theorem RVs.rvB {K:W.Frag}{ι:List Zm}{H:Hp}{b:Bool}{xs:List IV}{vs:List V}(h:RVs K ι H xs vs):RVs K ι H (L3.rvB b xs) (L3.rvB b vs):=by cases b;exact h;exact h.rev
theorem Jo1 {b:Bool}{ws:List V}{its:List Ze}(h:Vals ws its):Vals (rvB b ws) (rvB b its):=by
 cases b
 ·exact h
 ·exact h.reverse
section
variable {ce:CeT}{X:Cx}
section
variable {A:ZO}{Q:QvT}{E:QvT}{P:PySem.Fin->Zl->Prop}{pj:PnT}{σi:ISt}{σ:L2.St}{G:Hp->Prop}{fq D kS:Zm}{mk:IV->IH->Res IV}{ys:List IV}{ws:List V}{its:List Ze}{ks:List Int}{e e1:Nat}{H:Hp}{ι:List Zm}{h:IH}{s:Zl}
theorem Jox {b:Bool}{kA:Array Ze}{st:SortSt}(N:Now ce X pj ι σi h σ H s)(fD:FpOk X pj H D)(fK:FpOk X pj H kS)(hDK:D≠kS)(gD:s.heap.get? D=Za (Zap "list" #[] e1))(gK:s.heap.get? kS=Za (Zap "list" kA e))(hz:kA.size<64)
  (rv:Vals ws its)(r3:RVs X.K ι H ys ws)(h64:ys.length<64)(hout:(arrOf st).map (·.2)=ZaO ((ordK ks ys.length).map λ i=>its.getD i ZV))(hf:failedOf st=Zc)(hP:∀s',Q (.ref D) s'->P (.done (.ret .none)) s')(K:Kont ce X RU pj ι σi σ H (Y4 b ys ks h) Q E) :
  Zx (Z8 X.prog X.w) A (ksk_tail D b e1 (.ref kS) st) P E s:=by
 have lo:=Jon ks ys.length
 have lt:=Y0 ks (n:=ys.length)
 have l1:=r3.length
 have l2:=rv.length
 have s1:∀b u,b≠kS->s.heap.get? b=Za u->(s.heap.update kS (Zan λ _=>(#[]:Array Ze))).get? b=Za u:=λ b u nb q=>(Zw _ _ (ZQ nb)).trans q
 have gD1:=s1 D _ hDK gD
 have N1:=N.turned (h':=s.heap.update kS (Zan λ _=>(#[]:Array Ze))) (t':=s.toks) fK s1
 have hsz:(ZaO (rvB b ((ordK ks ys.length).map λ i=>its.getD i ZV))).size=ys.length:=by rw[Zu,QW,Zi,lo]
 have hrv:(if b=Zg then(ZaO ((ordK ks ys.length).map λ i=>its.getD i ZV)).reverse else ZaO ((ordK ks ys.length).map λ i=>its.getD i ZV))=ZaO (rvB b ((ordK ks ys.length).map λ i=>its.getD i ZV)):=by cases b<;>simp[rvB]
 unfold ksk_tail
 try dsimp only
 rw[hout,hrv]
 refine Zd (Zdz gK rfl ?_ (by rw[ZaY];omega) (ZX _))
 refine Zd (Zbb ?_)
 refine Zd (seqEpoch_at gD1 rfl ?_)
 refine Zd (Zdz gD1 rfl ?_ (ZX _) (by rw[hsz,ZaY];omega))
 rw[hf]
 simp only[bne_self_eq_false,Zaa,if_false]
 refine Z0 (hP _ ?_)
 obtain⟨c2,hc2⟩:∃c2,((s.heap.update kS (Zan λ _=>(#[]:Array Ze))).update D (Zan λ _=>ZaO (rvB b ((ordK ks ys.length).map λ i=>its.getD i ZV)))).get? D=Za (Zap "list" (ZaO (rvB b ((ordK ks ys.length).map λ i=>its.getD i ZV))) c2):=⟨_,Zcq gD1 λ _=>ZaO (rvB b ((ordK ks ys.length).map λ i=>its.getD i ZV))⟩
 have hl:(rvB b ((ordK ks ys.length).map λ i=>ws.getD i V.non)).length<=sizeLine:=by rw[QW,Zi,lo,ZaY];omega
 have I':=Jru N1.inv (o:=.lst (rvB b ((ordK ks ys.length).map λ i=>ws.getD i V.non))) (h':=(s.heap.update kS (Zan λ _=>(#[]:Array Ze))).update D (Zan λ _=>ZaO (rvB b ((ordK ks ys.length).map λ i=>its.getD i ZV)))) (t':=s.toks) (λ b u nb q=>(Zw _ _ (ZQ nb)).trans q) fD
  ⟨hl,rvB b ((ordK ks ys.length).map λ i=>its.getD i ZV),c2,Jo1 (Jmv rv _ (λ i hi=>by have:=lt i hi;omega)),hc2⟩
 exact finA N1 K D fD.1 ⟨_,J7,RVs.new fD.1 (Jor r3 _ lt).rvB⟩ _ _ I' rfl
theorem Ju0 {b:Bool}{us:List Ze}{ns:List Int}(h:ZbA us ns):ZbA (rvB b us) (rvB b ns):=by
 cases b
 ·exact h
 ·exact h.reverse
theorem Jzu {b:Bool}{kA:Array Ze}{its:List Ze}(h:kA.size=its.length):(if b=Zg then(kA.zip its.toArray).reverse else kA.zip its.toArray)=(rvB b kA.toList).toArray.zip (rvB b its).toArray:=by
 cases b with
 | false=>simp[rvB]
 | true =>
  apply Array.toList_inj.mp
  simp only[rvB,if_true,Array.toList_reverse,Array.toList_zip]
  exact List.reverse_zipWith (by simpa using h)
theorem Jza {b:Bool}{kA:Array Ze}(N:Now ce X pj ι σi h σ H s)(fD:FpOk X pj H D)(fK:FpOk X pj H kS)(hDK:D≠kS)(gD:s.heap.get? D=Za (Zap "list" #[] e1))(gK:s.heap.get? kS=Za (Zap "list" kA e))(hk:ZbA kA.toList ks)(lk:ks.length=ys.length)
  (rv:Vals ws its)(r3:RVs X.K ι H ys ws)(h64:ys.length<64)(hP:∀s',Q (.ref D) s'->P (.done (.ret .none)) s')(K:Kont ce X RU pj ι σi σ H (XR b ys ks h) Q E) :
  Zx (Z8 X.prog X.w) A (ksk_end D b its.toArray e1 (.ref kS) kA) P E s:=by
 have l1:=r3.length
 have l2:=rv.length
 have l3:=hk.length
 have hz:kA.size=its.length:=by rw[<- ZaW];omega
 have step:∀t:Sem PySem.Fin,Zx (Z8 X.prog X.w) A t P E s->Zx (Z8 X.prog X.w) A (if b=Zg then(do let _<-rule "list.sort.reverse";t) else t) P E s:=by
  intro t ht
  split
  ·exact Zd (Zer ht)
  ·exact ht
 unfold ksk_end
 try dsimp only
 refine step _ ?_
 rw[Jzu hz]
 have rv':=Jo1 (b:=b) rv
 have r3':=r3.rvB (b:=b)
 have hk':=Ju0 (b:=b) hk
 have h64':(rvB b ys).length<64:=by rw[QW];exact h64
 have K:Kont ce X RU pj ι σi σ H (Y4 b (rvB b ys) (rvB b ks) h) Q E:=K
 have ly:(rvB b ys).length=(rvB b its).length:=by rw[QW,QW];omega
 have lk':(rvB b ks).length=(rvB b its).length:=by rw[QW,QW];omega
 have l4:(rvB b kA.toList).length=(rvB b its).length:=by rw[QW,QW,ZaW,hz]
 have z2:its.toArray.size=(rvB b its).length:=by rw[QW,Zu]
 by_cases h2:its.toArray.size<2
 ·rw[if_pos h2,if_pos h2]
  refine Zd (Z0 ?_)
  rw[StateT.run_pure]
  refine Zd (Z0 ?_)
  try dsimp only
  refine Jox N fD fK hDK gD gK (by omega) rv' r3' h64' ?_ rfl hP K
  generalize rvB b its=its at *
  generalize rvB b kA.toList=kl at *
  have e1:(arrOf (SortSt.mk' general' (kl.toArray.zip its.toArray) #[] 7 Zc)).map (·.2)=its.toArray:=by
   apply Array.toList_inj.mp
   show((kl.toArray.zip its.toArray).map (·.2)).toList=_
   rw[Array.toList_map,ksk_zip]
   exact List.map_snd_zip (by rw[List.toList_toArray];omega)
  rw[e1,ly]
  exact congrArg ZaO (Jvf (lt:=ltF λ i=>(rvB b ks).getD i 0) its (by omega)).symm
 ·rw[if_neg h2,if_neg h2]
  rw[Zu] at h2
  rw[ksk_kind hk (by omega)]
  refine Zd (Z0 ?_)
  have zk:kA.size<64:=by omega
  have n0:¬(rvB b its).length<2:=by rw[QW];exact h2
  generalize rvB b its=its at *
  generalize rvB b kA.toList=kl at *
  generalize rvB b ks=ks at *
  generalize rvB b ys=ys at *
  generalize rvB b ws=ws at *
  have sp:=Jhb (n:=its.length) (by omega)
  refine Zd (Zam (kat_run (ks:=kl) (vs:=its) (Q:=λ st' s'=>s'=s/\failedOf st'=Zc/\arrOf st'=(Jy (ltF λ i=>ks.getD i 0) (ZbP its.length)).map (kas_item (kl.toArray.zip its.toArray))) (G:=λ p s'=>s'=s/\p=Jy (ltF λ i=>ks.getD i 0) (ZbP its.length)) l4 (by omega) (by omega)
   (λ p st' s' a1 a2 a3 a4=>⟨a4.1,a3,a4.2▸a2⟩) (Asks.wp (n:=its.length) (lt:=ltF λ i=>ks.getD i 0) (λ i j hi hj C hC=>?_) sp ⟨rfl,rfl⟩)) ?_ λ _ _ e=>e)
  ·unfold kas_ask
   obtain⟨t1,e1⟩:=hk'.get i _ (Zb (show i<ks.length by omega))
   obtain⟨t2,e2⟩:=hk'.get j _ (Zb (show j<ks.length by omega))
   rw[Zk,Zk,e1,e2]
   refine kat_lt_int ?_
   have hC:C (decide (ks.getD i 0<ks.getD j 0)) s:=hC
   rw[Zk,Zk,Zb (show i<ks.length by omega),Zb (show j<ks.length by omega)] at hC
   exact hC
  ·rintro⟨⟨⟩,st'⟩ s' ⟨rfl,hfl,har⟩
   try dsimp only
   refine Jox N fD fK hDK gD gK zk rv' r3' h64' ?_ hfl hP K
   rw[kat_snds (ks:=kl) (vs:=its) l4 har,ly]
   rfl
theorem Jvh {b:Bool}(ko:Jtl ce X A σi σ pj G (.ref fq) mk)(hG:∀H H',Ext H H'->G H->G H')(N:Now ce X pj ι σi h σ H s)(g:G H)(fD:FpOk X pj H D)(fK:FpOk X pj H kS)(hDK:D≠kS)(gD:s.heap.get? D=Za (Zap "list" #[] e1))(gK:s.heap.get? kS=Za (Zap "list" #[] 0))
  (rv:Vals ws its)(r3:RVs X.K ι H ys ws)(h64:ys.length<64)(hP:∀s',Q (.ref D) s'->P (.done (.ret .none)) s')(K:Kont ce X RU pj ι σi σ H ((QE mk ys [] h).bind (XR b ys)) Q E) :
  Zx (Z8 X.prog X.w) A (ksk_rest D (.ref fq) b its.toArray e1 (.ref kS)) P E s:=by
 have l1:=r3.length
 have l2:=rv.length
 unfold ksk_rest
 refine Zd (Zer ?_)
 rw[List.forIn_toArray]
 refine Zd (ksk_fold (λ j s'=>∃H' ι' h' ks kA e,Now ce X pj ι' σi h' σ H' s'/\G H'/\Nxt ι H ι' H'/\s'.heap.get? D=Za (Zap "list" #[] e1)/\s'.heap.get? kS=Za (Zap "list" kA e)/\ZbA kA.toList ks/\ks.length=j/\H' D=Zc/\H' kS=Zc/\Kont ce X RU pj ι' σi σ H' ((QE mk (ys.drop j) ks h').bind (XR b ys)) Q E) its 0 s
  ⟨H,ι,h,[],#[],0,N,g,.refl,gD,gK,.nil,rfl,fD.1,fK.1,K⟩ ?step ?done)
 case step =>
  rintro j x s' hx ⟨H',ι',h',ks,kA,e,N',g',n',gD',gK',hk,hlj,hD',hK',K'⟩
  simp only[Nat.zero_add] at hlj K' ⊢
  have fD':=FpOk.at fD hD'
  have fK':=FpOk.at fK hK'
  obtain⟨xv,ex,rx⟩:=Jn0 rv hx
  obtain⟨yv,eyv,qy⟩:=(r3.mono n').get' ex
  have hj:j<ys.length:=(Zr.mp eyv).1
  have ed:ys.drop j=yv::ys.drop (j+1):=by
   rw[Zbc hj,(Zr.mp eyv).2]
  rw[ed] at K'
  have K':Kont ce X RU pj ι' σi σ H' (((mk yv h').nx.bind λ k h''=>match k with|.int n=>QE mk (ys.drop (j+1)) (ks++[n]) h''|_=>.stuck).bind (XR b ys)) Q E:=K'
  rw[Res.bind_bind] at K'
  have hz:kA.size=j:=by rw[<- ZaW,hk.length,hlj]
  have N2:=(N'.pinO gK' fK' λ v z=>by cases z).pinO gD' (FpOk.more (p:=(kS,Zap "list" kA e)) fD' (ZQ hDK)) λ v z=>by cases z
  rw[ZZ] at N2
  refine Zd (wpAny_attempt (nof (ko _ _ _ _ _ yv x _ N2 g' ⟨xv,rx,qy⟩ (Jsj K' λ k h3 u s3 H3 ι3 N3 n3 ru K3=>?_))))
  have pK:=N3.inv.pin (kS,Zap "list" kA e) (Zn _ (Zn _ (by simp)))
  have pD:=N3.inv.pin (D,Zap "list" #[] e1) (Zn _ (Zn _ (by simp)))
  have N4:=N3.pins
  cases k with
  | int n =>
   obtain⟨v,rv',ev⟩:=ru
   have ev:v=.int n:=ev
   subst ev
   obtain⟨t,rfl⟩:=rv'
   try dsimp only
   refine Zd (Zdz pK.1 rfl ?_ (by rw[ZaY];omega) (ZY (Zc6 (Array.size_push ..)) (by rw[ZaY];omega)))
   obtain⟨c2,hc2⟩:∃c2,(s3.heap.update kS (Zan (·.push (.int n t)))).get? kS=Za (Zap "list" (kA.push (.int n t)) c2):=⟨_,Zcq pK.1 (·.push (.int n t))⟩
   have s1:∀b u,b≠kS->s3.heap.get? b=Za u->(s3.heap.update kS (Zan (·.push (.int n t)))).get? b=Za u:=λ b u nb q=>(Zw _ _ (ZQ nb)).trans q
   have N5:=N4.turned (h':=s3.heap.update kS (Zan (·.push (.int n t)))) (t':=s3.toks) (FpOk.at fK pK.2.1) s1
   refine Z0 ⟨rfl,H3,ι3,h3,ks++[n],kA.push (.int n t),c2,N5,hG _ _ n3.ext g',n'.trans n3,s1 D _ hDK pD.1,hc2,by rw[Array.toList_push];exact ksk_snoc hk,by simp[hlj],pD.2.1,pK.2.1,K3⟩
  | _=>exact Zf K3
 case done =>
  rintro s' ⟨H',ι',h',ks,kA,e,N',g',n',gD',gK',hk,hlj,hD',hK',K'⟩
  rw[Nat.zero_add] at hlj K'
  rw[List.drop_of_length_le (by omega)] at K'
  try dsimp only
  refine Zd (listItems_at gK' rfl ?_)
  exact Jza N' (FpOk.at fD hD') (FpOk.at fK hK') hDK gD' gK' hk (by omega) rv (r3.mono n') h64 hP K'
theorem Jzb {b:Bool}{kw:List (Str×Ze)}{B:ZO}{h2:Zas}{tk:Nat}(hkw:∀a,Ze0.«list.sort» ⟨[.ref a],kw⟩=ksk_tree a (.ref fq) b)(hak:∀a,Zeq "list.sort" ⟨[a],kw⟩)(ko:Jtl ce X B.in1 σi σ pj G (.ref fq) mk)(hG:∀H H',Ext H H'->G H->G H')(N:Now ce X pj ι σi h σ H s)(g:G H)
  (keep:∀b o,s.heap.get? b=Za o->h2.get? b=Za o)(le0:s.heap.objs.size<=h2.objs.size)(rv2:Vals ws its)(r3:RVs X.K ι H ys ws)(h64:ys.length<64)(hP:∀D s',Q (.ref D) s'->P (.done (.ret (.ref D))) s')
  (K:Kont ce X RU pj ι σi σ H ((QE mk ys [] h).bind (XR b ys)) Q E):Zx (Z8 X.prog X.w) B (do let l<-newList its;let _<-ZbR [l] (call (.builtin "list.sort") [l] kw);ret l) P E { s with heap:=h2,toks:=tk }:=by
 have l1:=r3.length
 have l2:=rv2.length
 refine Zd (Zcj ?_ (by rw[ZaY];omega))
 have hoL:(h2.push (Zap "list" its.toArray 0)).get? h2.objs.size=Za (Zap "list" its.toArray 0):=Z2 _ rfl
 have keep3:∀b o,s.heap.get? b=Za o->(h2.push (Zap "list" its.toArray 0)).get? b=Za o:=λ b o q=>Zh _ (keep b o q)
 have sz3:(h2.push (Zap "list" its.toArray 0)).objs.size=h2.objs.size+1:=ZdL ..
 show Zx _ _ _ _ _ { s with heap:=h2.push (Zap "list" its.toArray 0),toks:=tk }
 generalize h2.push (Zap "list" its.toArray 0)=h3 at hoL keep3 sz3
 refine Zd (Zah (wpAny_call_entry_kw slot_list_sort ⟨_,hoL,rfl⟩ entry_list_sort ?body (hak _)))
 case body =>
  show Zx (Z8 X.prog X.w) B.in1 (Ze0.«list.sort» ⟨[.ref h2.objs.size],kw⟩) _ _ _
  rw[hkw]
  unfold ksk_tree
  refine Zd (listItems_at hoL rfl ?_)
  refine Zd (Zdz hoL rfl ?_ (by rw[Zu,ZaY];omega) (ZX _))
  obtain⟨ep,ho1⟩:∃ep,(h3.update h2.objs.size (Zan λ _=>(#[]:Array Ze))).get? h2.objs.size=Za (Zap "list" #[] ep):=⟨_,Zcq hoL λ _=>#[]⟩
  refine Zd (seqEpoch_at ho1 rfl ?_)
  refine Zd (wpAny_newTuple ?_ (by show its.length<=_;rw[ZaY];omega))
  refine Zd (Zcj ?_ (ZX _))
  refine Zah ?_
  have sz5:((h3.update h2.objs.size (Zan λ _=>(#[]:Array Ze))).push (Zap "tuple" its.toArray 0)).objs.size=h2.objs.size+2:=by rw[ZdL,Heap.size_update,sz3]
  obtain⟨kS,hkS⟩:∃kS,kS=((h3.update h2.objs.size (Zan λ _=>(#[]:Array Ze))).push (Zap "tuple" its.toArray 0)).objs.size:=⟨_,rfl⟩
  have gK:(((h3.update h2.objs.size (Zan λ _=>(#[]:Array Ze))).push (Zap "tuple" its.toArray 0)).push (Zap "list" #[] 0)).get? kS=Za (Zap "list" #[] 0):=by rw[hkS];exact Z2 _ rfl
  have gD:(((h3.update h2.objs.size (Zan λ _=>(#[]:Array Ze))).push (Zap "tuple" its.toArray 0)).push (Zap "list" #[] 0)).get? h2.objs.size=Za (Zap "list" #[] ep):=Zh _ (Zh _ ho1)
  have old:∀b o,s.heap.get? b=Za o->(((h3.update h2.objs.size (Zan λ _=>(#[]:Array Ze))).push (Zap "tuple" its.toArray 0)).push (Zap "list" #[] 0)).get? b=Za o:=λ b o q=>Zh _ (Zh _ ((Zw _ _ (ZaL (ZK (Z1 q) le0))).trans (keep3 b o q)))
  rw[<- hkS]
  rw[sz5] at hkS
  have fD:FpOk X pj H h2.objs.size:=N.inv.fpOk le0 (N.inv.hok.fresh le0)
  have le:s.heap.objs.size<=kS:=by rw[hkS];exact ZY le0 (Nat.le_add_right _ _)
  have fK:FpOk X pj H kS:=N.inv.fpOk le (N.inv.hok.fresh le)
  exact Jvh ko hG (N.keptH (t':=tk) old) g fD fK (by rw[hkS];exact Z5 (Nat.lt_add_of_pos_right (by decide))) gD gK rv2 r3 h64 (λ s' q=>⟨_,rfl,Z0 (hP _ _ q)⟩) K
end
end
def VX (x:IV)(h:IH):Option (Nat×List IV):=match x with
 | .ref i=>(match h[i]? with
  | some (.lst xs)=>Za (i,xs)
  | _=>Zc)
 | _=>Zc
theorem Ji9 (e:VX x h=Za (i,xs)):x=.ref i/\h[i]?=Za (.lst xs):=by
 unfold VX at e
 split at e
 ·split at e
  ·rename_i q
   cases e
   exact⟨rfl,q⟩
  ·cases e
 ·cases e
def XI (x:IV)(as:List IV)(h:IH):Res IV:=match VX x h,as with
 | some (i,xs),[]=>(match xs[xs.length-1]? with
  | some y=>.ok y (h.set i (.lst xs.dropLast))
  | none=>.stuck)
 | _,_=>.stuck
def XL (x:IV)(as:List IV)(h:IH):Res IV:=match VX x h,as with
 | some (i,xs),[.int k]=>(match JP xs with
  | some ns=>(match ns.findIdx? (· ==k) with
   | some j=>.ok .non (h.set i (.lst (xs.eraseIdx j)))
   | none=>.stuck)
  | none=>.stuck)
 | _,_=>.stuck
section
variable {ce:CeT}{X:Cx}
theorem J05:MtI ce X "list" "list.pop" XI:=by
 intro pj s σ H ι σi h x xs v us Q E N rx rs K
 unfold XI at K
 split at K
 ·rename_i i zs e
  obtain⟨rfl,hi⟩:=Ji9 e
  split at K
  ·rename_i y hy
   obtain⟨xv,rx,a,rfl,ha⟩:=rx
   obtain⟨vs,rv,qs⟩:=rs
   cases (show vs=[] from qs)
   obtain⟨ws,e1,r1⟩:=N.at hi ha
   obtain⟨z,hz,qz⟩:=r1.get hy
   exact Jw5 (J1b (X:=X.wish E)) N.inv rx rv ⟨a,ws,z,rfl,rfl,e1,by rw[r1.length];exact hz,finW (ys:=zs.dropLast) N K ha e1 (by rw[ZdS,ZdS,r1.length];exact r1.take _) qz⟩
  ·exact Zf K
 ·exact Zf K
theorem Jum:MtI ce X "list" "list.remove" XL:=by
 intro pj s σ H ι σi h x xs v us Q E N rx rs K
 unfold XL at K
 split at K
 ·rename_i i zs k e
  obtain⟨rfl,hi⟩:=Ji9 e
  split at K
  ·rename_i ns hb
   split at K
   ·rename_i j hj
    obtain⟨xv,rx,a,rfl,ha⟩:=rx
    obtain⟨vs,rv,qs⟩:=rs
    obtain⟨w,rfl,qw⟩:=qs.one_of
    cases (show w=.int k from qw)
    obtain⟨u,rfl,t,rfl⟩:=Q0 rv
    cases rx
    obtain⟨ws,e1,r1⟩:=N.at hi ha
    obtain⟨z,its,n,r,hl,eo⟩:=N.inv.lstM e1
    have are:=V9 hb r1 r
    have ln:=Yt are
    obtain⟨hlt,hp,hno⟩:=List.findIdx?_eq_some_iff_getElem.mp hj
    have at_:∀m (hm:m<its.toArray.size),∃t,its.toArray[m]=.int (ns.getD m 0) t:=λ m hm=>ZdY are m _ (by simp at hm;simp[hm])
    refine Zdl F.slot_list_remove ⟨_,eo,rfl⟩ F.entry_list_remove (F.args_list_remove_2 _ _)
     (MeetsSeq.list_remove a its.toArray n (.int k t) (isK k) (λ y hy=>?_) j (by simp;omega) ?_ (λ m hm hmj=>?_) (by rw[Zu];omega)) ⟨eo,?_⟩
    ·obtain⟨m,hm,rfl⟩:=Array.mem_iff_getElem.mp hy
     obtain⟨t',e⟩:=at_ m hm
     rw[e]
     exact MeetsSeq.EqGives.int _ _ _ _
    ·obtain⟨t',e⟩:=at_ j (by simp;omega)
     rw[e]
     simpa [isK,Zk,hlt] using hp
    ·obtain⟨t',e⟩:=at_ m hm
     rw[e]
     have:=hno m hmj
     have hm2:m<ns.length:=by omega
     simpa [isK,Zk,hm2] using this
    ·exact finW (ys:=zs.eraseIdx j) (ws:=ws.eraseIdx j) N K ha e1 (r1.erase _) rfl _ _ (N.inv.lset (its':=its.eraseIdx j) e1 eo (by rw[ZcE]) (r.eraseIdx j) (by have:=Jl1 ws j;omega)) rfl
   ·exact Zf K
  ·exact Zf K
 ·exact Zf K
end
section
variable {pr:ZA}{wd:ZW}{A:ZO}{E:QvT}{s:Zl}
theorem Jju {Q:List Ze->Zl->Prop}{n:Nat}(hh:A.handled=Zc)(hr:IsRange s.heap r a b c t u v)(hsmall:Builtin.Range.small a b c=Zg) 
  (hn:Zd1 a b c=n)(hlen:n<=2^24)(hQ:∀h' tk acc,(∀b o,s.heap.get? b=Za o->h'.get? b=Za o)->s.heap.objs.size<=h'.objs.size->ItemsOf (λ i v=>∃t,v=.int (a+i*c) t) acc n->Q acc.toList { s with heap:=h',toks:=tk }) :
  Zx (Z8 pr wd) A (collect (.ref r)) Q E s:=by
 unfold collect
 refine Zd (wpAny_runValue (Zar PySem.F.entry_proto_collect ?_))
 rw[Zab PySem.F.plain_proto_collect _]
 show Zx _ A.in1 (newList []>>=λ l=>again (.builtin "list.__iadd__" ⟨[l,.ref r],[]⟩)) _ _ s
 refine Zd (Zcj ?_ (ZX _))
 refine Z0 ⟨Za4 ZdA _,Zar PySem.F.entry_list_iadd ?_⟩
 rw[Zab ZdA _]
 show Zx _ A.in1 (Builtin.List.listExtendWith (.ref s.heap.objs.size) (.ref r) (.ref s.heap.objs.size)) _ _ _
 refine wpAny_extend_range (R:=λ r s'=>match r with|.ok (.ret v)=>Zx (Z8 pr wd) A (match v with|.ref a=>(do match (<- load a).data with|.seq xs _=>pure xs.toList|_=>unsupported "internal:collect")|_=>unsupported "internal:collect") Q E s'|.ok _=>False|.error e=>E e s') (s:={ s with heap:=s.heap.push { cls:=.type "list",data:=.seq #[] } }) hh (Zh _ hr) hsmall hn hlen s.heap.objs.size _ 0 (Z2 _ rfl) λ h' tk acc c' keep g its=>?_
 show Zx _ A (load s.heap.objs.size>>=_) _ _ _
 refine Zd (wpAny_load g ?_)
 exact Z0 (hQ h' tk acc (λ b o e=>keep b o (Z5 (Z1 e)) (Zh _ e)) (ZbZ (Z1 g)) its)
end
section
variable {ce:CeT}{X:Cx}
def Yo (q:Str)(j:Nat)(js:List Nat)(aa:A1)(m:E1):E1:=λ σ h=>(aa σ h).bind λ xs h1=>match xs,h1[j]? with
 | [.int n],Za (.tab q')=>if q'=q/\0<=n/\n<64 then(QE (λ v h'=>m (Za v::js.map λ j=>(σ[j]?).join) h') (rngI 0 n) [] h1).bind (XR Zg (rngI 0 n)) else .stuck
 | _,_=>.stuck
theorem Jt9 {k:Nat}{q x:Str}{caps:List Str}{js:List Nat}{j:Nat}{a body:Expr}{aa:A1}{m:E1}{params:Zca}{scope:Zbi}{p p2 lp pos pos2 kp kp2 cp:Pos}{ck:Nat}(hh:X.A.handled=Zc)(hg:Gl X "sorted")(hm:X.mg "sorted"=Zc)(g2:Gl X "range")(m2:X.mg "range"=Zc)(ha:PAi ce X [a] aa)(hs:ZG [a] X.env=[(Zj,Zbe a X.env)])
  (hr:Room (k+3) X.A)(hcd:W.codeIn X.K X.env.code q=Zg)(hq:X.env.qual=q++".<locals>.")(B:Q9 X.mg X.base)(hx:Vn params=Za x)(S:LamSc X.N X.env.scope.names x caps js scope)
  (hb:∀f cd s' H',PEi ce (cxL X X.A.in1.in1 (x::caps) q scope f cd s' H') body m) :
  PEi ce X (.Call (.Name "sorted" p) [.Call (.Name "range" p2) [a] [] pos2] [⟨Za "key",.Lambda params body scope lp,kp⟩,⟨Za "reverse",.Constant (.bool Zg) ck cp,kp2⟩] pos) (Yo q j js aa m):=λ pj s σ H ι σi h Q E N K=>by
 have hcl:Zdo scope X.env=pure (clOf X.env.cells scope.names []):=Jbz λ y hm hk=>N.inv.ok.has y.1 (.inl (S.free y hm hk))
 refine Zak (QG N.inv hg hm rfl ?_)
 refine callWith_kw ?_ rfl rfl rfl rfl
 refine Zdr ?_
 refine Zak (QG N.inv g2 m2 boot_range ?_)
 refine ZaR ?_ hs rfl
 refine(ha pos2).run N K λ xs h1 us s1 H1 ι1 N1 n1 r1 K1=>?_
 obtain⟨vs,rv,qs⟩:=r1
 split at K1
 ·rename_i n q' ej
  split at K1
  ·rename_i hc
   obtain⟨rfl,n0,n64⟩:=hc
   obtain⟨w,rfl,qw⟩:=qs.one_of
   cases (show w=.int n from qw)
   obtain⟨u,rfl,t,rfl⟩:=Q0 rv
   refine call_range_1 (Zds ?_)
   have gr:(s1.heap.push { cls:=.type "range",data:=.fields #[.int 0 s1.toks,.int n t,.int 1 (s1.toks+1)] }).get? s1.heap.objs.size=Za { cls:=.type "range",data:=.fields #[.int 0 s1.toks,.int n t,.int 1 (s1.toks+1)] }:=Z2 _ rfl
   have N1':=(N1.keptH (h':=s1.heap.push { cls:=.type "range",data:=.fields #[.int 0 s1.toks,.int n t,.int 1 (s1.toks+1)] }) (t':=s1.toks+1+1) λ b o e=>Zh _ e)
   have F1:FpOk X pj H1 s1.heap.objs.size:=N1.inv.fpOk (Zo _) (N1.inv.hok.fresh (Zo _))
   have N2:=N1'.pinO gr F1 λ v z=>by cases z
   have K2:=Kont.more (pl:=[(s1.heap.objs.size,({ cls:=.type "range",data:=.fields #[.int 0 s1.toks,.int n t,.int 1 (s1.toks+1)] }:Obj))]) K1
   refine Zb1 (Zd (Joh N2 ej hcd hq (Jog hx) hcl B λ f c pm ctv s3 H3 N3 n3 LC=>Zd (Zb9 (Z0 ?_))))
   refine Zb1 (Zd (Z0 (Zd (Zb9 (Z0 (Zck ?_))))))
   have K3:=Kont.more (pl:=[(f,lamO q' params body scope (clOf X.env.cells scope.names []) pm ctv c)]) (Kont.mono K2 n3)
   have pr:=N3.inv.pin (s1.heap.objs.size,{ cls:=.type "range",data:=.fields #[.int 0 s1.toks,.int n t,.int 1 (s1.toks+1)] }) (Zn _ (Zat _ (Zn _ (Zy.mpr rfl))))
   refine call_function_entry_kw kind_sorted plain_sorted entry_sorted (ksk_s2 _ _ _) ?_
   unfold Ze0.«sorted»
   refine Zd (m:=checkCount "sorted" 1 1 _) (Z0 ?_)
   refine Zd (Jju (n:=n.toNat) hh pr.1 (small_one (by decide) (by decide) (by omega) (by omega)) ?_ (by omega) λ h4 tk acc keep le its=>?_)
   ·rw[rangeSize_one]
    split<;>omega
   have are:ZbA acc.toList ((ZN n.toNat).map λ k=>((k:Nat):Int)):=by
    refine Jrt _ _ (by simp[its.1]) λ i v hv=>?_
    obtain⟨t,rfl⟩:=its.2 i v (by simpa using hv)
    have hi:i<n.toNat:=by
     have:=(Zr.mp hv).1
     simp only[ZaW,its.1] at this
     exact this
    exact⟨t,by simp[Zk,hi]⟩
   refine Jzb (G:=λ H=>QQ H q' (.ref c)) (mk:=λ v h'=>m (Za v::js.map λ j=>(σi[j]?).join) h') (ys:=rngI 0 n) (λ a=>ksk_t2 f a Zg) (λ a=>ksk_l2 a _ _) ?_ (λ H H' e g=>g.mono e.frzs) N3 LC keep le (XY are) (by rw[XM];exact Jkb _) (by rw[XM];simp;omega) (λ D s' q=>⟨_,rfl,q⟩) K3
   intro pl s4 H4 ι4 h4 v u Q4 N4 g4 ru4 K4
   have pf:=N4.inv.pin (f,lamO q' params body scope (clOf X.env.cells scope.names []) pm ctv c) (Zn _ (Zat _ (Zn _ (Zy.mpr rfl))))
   exact Jr6 (A:=X.A.in1.in1) N.inv.ok.frames hr.in1.in1 N4 pf.1 g4 hx S (hb f (.ref c)) ru4 K4
  ·exact Zf K1
 ·exact Zf K1
end
end L3
namespace L4
open PySem PySem.Spec PyProof.Rows L2 L3
noncomputable def stE:E1:=λ _ _=>.stuck
noncomputable def stT:T1:=λ _ _=>.stuck
noncomputable def stO:O1:=λ _ _=>.stuck
noncomputable def stI:I1:=λ _ _=>.stuck
noncomputable def stG:G1:=λ _ _ _=>.stuck
noncomputable def stS:S1:=λ _ _=>.stuck
structure Fn where
 np:Nat
 dvs:List IV
 run:List IV->IH->Res IV
structure Pg where
 fn:Str->Option Fn
 cls:Str->Option Fn
 meth:Str->Str->Option Fn
 con:Str->Option IV
 isa:Str->Option (Str->Bool)
 fld:Str->Bool
 free:Str->Bool
 tabs:Str->Option Nat
 rz:Str->Bool
 bas:Str->Bool
 xi:Str->Option (Str->Option Bool)
 wr:Str->Option (List IV->IH->Res IV)
 ne:Str->Bool
 xo:Str->Option Fn
 xf:Str->Str->Bool
 xb:Str->Bool
structure Sc where
 N:List Str
 names:List (Str×Zbd)
 own:Bool
 q:Str
noncomputable def ixOf (x:Str):List Str->Option Nat
 | []=>Zc
 | y::r=>if y==x then Za 0 else(ixOf x r).map (· + 1)
noncomputable def Sc.vis (S:Sc)(x:Str):Option Nat :=
 match S.names.lookup x with
 | some .local=>if x=="__debug__"||x=="__classdict__" then Zc else ixOf x S.N
 | some .cell=>if x=="__debug__"||x=="__classdict__" then Zc else ixOf x S.N
 | some .free=>if x=="__debug__"||x=="__classdict__" then Zc else ixOf x S.N
 | _=>Zc
noncomputable def Sc.gl (S:Sc)(x:Str):Bool:=S.names.lookup x==Za .globalImplicit&&!(x=="__debug__")&&!(x=="__name__")
noncomputable def Sc.sto (S:Sc)(x:Str):Option Nat :=
 match S.names.lookup x with
 | some .local=>ixOf x S.N
 | some .cell=>if S.own then ixOf x S.N else Zc
 | _=>Zc
def evC:Const->E1
 | .int i=>eC (.int i)
 | .bool b=>eC (.bl b)
 | .none=>eC .non
 | .str x=>eC (.str x)
 | _=>stE
def binI:ZcD->IV->IV->IH->Res IV
 | .Add=>Jl
 | .Sub=>JZ
 | .Mult=>Qy
 | .FloorDiv=>JI
 | .Mod=>Ju
 | .Pow=>JJ
 | _=>λ _ _ _=>.stuck
def cmpI:CmpOp->IV->IV->IH->Res IV
 | .Lt=>cLt
 | .LtE=>cLe
 | .Gt=>cGt
 | .GtE=>cGe
 | .Eq=>cEq
 | .NotEq=>cNe
 | .Is=>cIs
 | .IsNot=>Jn7
 | _=>λ _ _ _=>.stuck
def unI:UnaryOp->IV->IH->Res IV
 | .Not=>XF tru
 | .USub=>Yz
 | _=>λ _ _=>.stuck
def Jxr:List E1->E1
 | []=>stE
 | [a]=>a
 | a::b::r=>eAnd a (Jxr (b::r)) tru
def eOrs:List E1->E1
 | []=>stE
 | [a]=>a
 | a::b::r=>eOr a (eOrs (b::r)) tru
def Jze:List T1->T1
 | []=>stT
 | [a]=>a
 | a::b::r=>JX a (Jze (b::r))
def tOrs:List T1->T1
 | []=>stT
 | [a]=>a
 | a::b::r=>tOrI a (tOrs (b::r))
def aAll:List E1->A1
 | []=>Jd
 | a::r=>Jb a (aAll r)
def J1:Expr->Bool
 | .Starred .. =>Zj
 | _=>Zg
def XD:Expr->Bool
 | .Set .. =>Zj
 | _=>Zg
def Xs:Expr->Bool
 | .Slice .. =>Zj
 | _=>Zg
def VE:Expr->Bool
 | .ListComp .. =>Zj
 | .SetComp .. =>Zj
 | .DictComp .. =>Zj
 | _=>Zg
def VD:Expr->Bool
 | .Call (.Name ..) [] [] _=>Zj
 | _=>Zg
def isM1:Expr->Bool
 | .UnaryOp .USub (.Constant (.int 1) _ _) _=>Zg
 | _=>Zj
def Fn.fill (f:Fn)(n:Nat):Option (List IV):=if n<=f.np/\f.np<=n+f.dvs.length then Za (f.dvs.drop (f.dvs.length-(f.np-n))) else Zc
def Xk (f:Fn)(n:Nat)(a:A1):E1:=match f.fill n with
 | some d=>Jm f.run d a
 | none=>stE
def Jod (c:Str)(f:Fn)(n:Nat)(a:A1):E1:=match f.fill (n+1) with
 | some d=>QB c f.run d a
 | none=>stE
def bltF (x:Str):List IV->IH->Res IV :=
 if x=="len" then on1 lenI else if x=="all" then on1 allI else if x=="sum" then on1 sumI else if x=="sorted" then on1 XS else if x=="min" then on1 VC else if x=="max" then on1 XB else λ _ _=>.stuck
def bltT (x:Str):List IV->IH->Res IV :=
 if x=="list" then on1 Vo else if x=="tuple" then on1 Xw else if x=="int" then on1 Xn else λ _ _=>.stuck
def Jrw (x:Str):Bool:=x=="len"||x=="all"||x=="sum"||x=="sorted"||x=="min"||x=="max"
def Jrx (x:Str):Bool:=x=="list"||x=="tuple"||x=="int"
def Jtn (P:Pg)(x:Str):Option (Ty->Option Bool) :=
 match P.isa x with
 | some g=>Za λ t=>match t with|.ins c=>Za (g c)|.exc _=>Zc|_=>Za Zj
 | none=>if P.free x then(if x=="int" then Za VO else if x=="bool" then Za VN else if x=="str" then Za VQ else if x=="list" then Za (if P.ne "Work" then VP else Vf) else if x=="tuple" then Za V5 else Zc) else Zc
def Jxt (o:Option (Ty->Option Bool))(e:E1):E1:=match o with
 | some ans=>eIsi ans e
 | none=>stE
def bmOf (T:String)(m:Str)(n:Nat):Option (IV->List IV->IH->Res IV) :=
 if T=="list"&&m=="append"&&n==1 then Za Xh else if T=="list"&&m=="pop"&&n==0 then Za XI else if T=="list"&&m=="remove"&&n==1 then Za XL else if T=="str"&&m=="join"&&n==1 then Za X6 else if T=="dict"&&m=="setdefault"&&n==2 then Za Xa else Zc
def JG (P:Pg)(m:Str)(n:Nat):Str->Option ((List IV->IH->Res IV)×List IV):=λ c=>match P.meth c m with
 | some f=>(match f.fill (n+1) with
  | some d=>Za (f.run,d)
  | none=>Zc)
 | none=>Zc
def VW (v:IV)(h:IH):Bool:=match v with
 | .ref i=>(match h[i]? with
  | some (.ins ..)=>Zg
  | _=>Zj)
 | _=>Zj
def tyS (v:IV)(h:IH):String:=match v with
 | .str _=>"str"
 | .rol _=>"list"
 | .ref i=>(match h[i]? with
  | some (.lst _)=>"list"
  | some (.dct _)=>"dict"
  | _=>"")
 | _=>""
def Jo (P:Pg)(m:Str)(n:Nat)(o:E1)(a:A1):E1:=λ σ h=>match o σ h with
 | .ok v h1=>if VW v h1 then Jtx m (JG P m n) o a σ h else(match bmOf (tyS v h1) m n with
  | some g=>eBm (tyS v h1) g o a σ h
  | none=>.stuck)
 | _=>.stuck
def J0d (n:Nat)(a:A1):I1:=match n with
 | 1=>iRg Q6 a
 | 2=>stI
 | _=>stI
def gAll:List G1->List IV->ISt->IH->SRes
 | []=>gN
 | g::r=>gC g (gAll r)
def VB (sc:Zbi):List Str:=sc.names.filterMap λ x=>if x.2==.local&&!(x.1==(".0":Str)) then Za x.1 else Zc
def Q3 (sc:Zbi):List Str:=sc.names.filterMap λ x=>if x.2==.free then Za x.1 else Zc
def jsOf (S:Sc)(sc:Zbi):List Nat:=(Q3 sc).map λ x=>(ixOf x S.N).getD 0
def Sc.comp (S:Sc)(sc:Zbi):Sc where
 N:=VB sc++Q3 sc
 names:=sc.names.map λ x=>if x.2==.free&&S.names.lookup x.1==Za .cell then(x.1,.cell) else x
 own:=Zj
 q:=""
def Sc.lam (S:Sc)(x:Str)(sc:Zbi):Sc where
 N:=x::Q3 sc
 names:=sc.names
 own:=Zj
 q:=""
def QF (S:Sc)(x:Str)(sc:Zbi):Bool :=
 sc.kind==.function&&!sc.isCoroutine&&!sc.isGenerator&&sc.names.all (λ y=>!(y.2==.cell))&&sc.names.lookup x==Za .local&&sc.names.all (λ y=>!(y.2==.free)||S.names.lookup y.1==Za .cell)
  && (Q3 sc).all (λ y=>decide (S.N[(ixOf y S.N).getD 0]?=Za y)&&sc.names.lookup y==Za .free)&&decide (x::Q3 sc).Nodup
def Sc.fake (S:Sc):Zbi:={ kind:=.function,names:=S.names,isGenerator:=Zj,isCoroutine:=Zj }
def Jrf:Expr->Bool
 | .Name x _=>x=="last_come"||x=="tops"||x=="last"||x=="_law_last"||x=="_law_lows_here"
 | _=>Zj
def ixD (a:Expr):IV->IV->IH->Res IV:=if Jrf a then QI else Jf
def txtB:Expr->Bool
 | .Name x _=>x=="_law_word_here"||x=="_law_name"
 | .Subscript .. =>Zg
 | _=>Zj
def slD (a:Expr):IV->Option Int->Option Int->IH->Res IV:=if txtB a then slT else slI
def J07:Expr->Bool
 | .Name x _=>x=="_law_mine"
 | _=>Zj
def cmpD (ne:Str->Bool)(o:CmpOp)(b:Expr):IV->IV->IH->Res IV:=match o with
 | .In=>if Jrf b then cInD else λ _ _ _=>.stuck
 | .Lt=>if J07 b then cLtX else cLt
 | o=>cmpI o
def gSbF (a:Expr)(o i:E1):G1:=if Jrf a then gSbD o i else stG
def Jwt:Expr->Option Expr
 | .Call (.Name y _) [e] [] _=>if y=="set"&&J1 e then Za e else Zc
 | _=>Zc
def Jop:Expr->Option Expr
 | .Call (.Name y _) [e] [] _=>if y=="range"&&J1 e then Za e else Zc
 | _=>Zc
def dctB:Expr->Bool
 | .Call (.Name y _) _ _ _=>y=="ceilings"
 | _=>Zj
def Jjr (P:Pg)(S:Sc)(x:Str)(f:Expr->E1):List Expr->E1
 | [a,b]=>if x=="max" then eCB (on2 maxI) (Jb (f a) (Jb (f b) Jd)) else if x=="min" then eCB (on2 minI) (Jb (f a) (Jb (f b) Jd)) else(match b with
  | .Name y _=>if x=="isinstance"&&S.gl y then Jxt (Jtn P y) (f a) else stE
  | _=>stE)
 | [a]=>(match (if x=="len"&&S.gl "set"&&P.free "set" then Jwt a else Zc) with
  | some e=>Ym (Jb (f e) Jd)
  | none=>match (if x=="list"&&S.gl "range"&&P.free "range" then Jop a else Zc) with
  | some _=>stE
  | none=>if x=="len"&&dctB a then eCB (on1 XA) (Jb (f a) Jd) else if Jrw x then eCB (bltF x) (Jb (f a) Jd) else if Jrx x then eCB (bltT x) (Jb (f a) Jd) else stE)
 | _=>stE
def J0o:Expr->Bool
 | .Constant (.bool Zg) _ _=>Zg
 | _=>Zj
def Js1 (P:Pg)(S:Sc)(f:Sc->Expr->E1)(x:Str)(a:Expr)(k:Str)(ps:Zca)(body:Expr)(sc:Zbi)(k2:Str)(d:Expr):E1:=match Jop a,Vn ps,P.tabs S.q with
 | some e,Za y,Za j=>if x=="sorted"&&k=="key"&&k2=="reverse"&&J0o d&&S.gl x&&P.free x&&S.gl "range"&&P.free "range"&&S.own&&QF S y sc then Yo S.q j (jsOf S sc) (Jb (f S e) Jd) (f (S.lam y sc) body) else stE
 | _,_,_=>stE
def minK (P:Pg)(S:Sc)(f:Sc->Expr->E1)(x:Str)(a:Expr)(k:Str):Expr->E1
 | .Lambda ps body sc _=>(match Vn ps,P.tabs S.q with
  | some y,Za j=>if x=="min"&&k=="key"&&S.gl x&&P.free x&&J1 a&&S.own&&QF S y sc then X4 ltT S.q j (jsOf S sc) (Jb (f S a) Jd) (f (S.lam y sc) body) else stE
  | _,_=>stE)
 | _=>stE
def Jr5 (P:Pg)(S:Sc)(f:Sc->Expr->E1)(x:Str)(args:List Expr)(kws:List Zed):E1:=match args,kws with
 | [a],[⟨Za k,d,_⟩]=>if x=="max"&&k=="default"&&S.gl x&&P.free x&&J1 a then Yn (Jb (f S a) Jd) (f S d) else minK P S f x a k d
 | [a],[⟨Za k,.Lambda ps body sc _,_⟩,⟨Za k2,d,_⟩]=>Js1 P S f x a k ps body sc k2 d
 | _,_=>stE
def Jn5 (P:Pg)(S:Sc)(m:Str):Expr->Option Fn
 | .Name x _=>if m=="__init__"&&S.gl x&&P.bas x then P.cls x else Zc
 | _=>Zc
def Jxs (P:Pg)(m:Str)(n:Nat)(b:Option Fn)(o:E1)(a:A1):E1:=match b with
 | some f=>if n=0 then stE else Xk f n a
 | none=>Jo P m n o a
def Jra (ifs:List Expr)(f:Expr->T1)(m:T1->E1):E1:=match ifs with
 | []=>m JF
 | [c]=>m (f c)
 | _=>stE
section
mutual
def ev (P:Pg):Nat->Sc->Expr->E1
 | 0,_,_=>stE
 | n+1,S,e=>match e with
  | .Constant c _ _=>evC c
  | .Name x _=>(match S.vis x with
   | some i=>Ja i
   | none=>if S.gl x then(match P.con x with
    | some v=>eC v
    | none=>stE) else stE)
  | .BinOp a op b _=>Jc (binI op) (ev P n S a) (ev P n S b)
  | .UnaryOp op a _=>eUn (unI op) (ev P n S a)
  | .BoolOp .And vs _=>Jxr (vs.map (ev P n S))
  | .BoolOp .Or vs _=>eOrs (vs.map (ev P n S))
  | .IfExp t a b _=>eIf (evT P n S t) (ev P n S a) (ev P n S b)
  | .Compare a [o] [b] _=>if Zci o b then stE else Jc (cmpD P.ne o b) (ev P n S a) (ev P n S b)
  | .Compare a [o,o'] [b,c] _=>if Zd5 [o,o'] [b,c] then stE else JW (cmpI o) (cmpI o') (ev P n S a) (ev P n S b) (ev P n S c)
  | .Tuple es _ _=>if es.all J1 then J8 (aAll (es.map (ev P n S))) else stE
  | .Dict [] [] _=>Xl
  | .List es _=>if es.all J1 then Jw (aAll (es.map (ev P n S))) else stE
  | .Subscript a (.Slice lo hi Zc _) _=>eSl (slD a) (ev P n S a) (evO P n S lo) (evO P n S hi)
  | .Subscript a i _=>if Xs i then Jc (ixD a) (ev P n S a) (ev P n S i) else stE
  | .Attribute o f _=>if VD o&&P.fld f then Jq f (ev P n S o) else stE
  | .Call (.Name x _) args [] _=>if S.gl x&&args.all J1 then Jrl P n S x args else stE
  | .Call (.Name x _) args (kw::kws) _=>Jr5 P S (λ S e=>ev P n S e) x args (kw::kws)
  | .Call (.Attribute o m ap) args [] p=>if args.all J1&&VD o&&(ap.endLine==p.line)&&decide (args.length<30) then Jxs P m args.length (Jn5 P S m o) (ev P n S o) (aAll (args.map (ev P n S))) else stE
  | .ListComp elt [⟨tg,iter,ifs,as⟩] sc _ =>
   if as=0/\XD iter=Zg/\QA S.N (VB sc) (Q3 sc) (jsOf S sc) S.fake sc=Zg then
    Jra ifs (evT P n (S.comp sc)) λ mt=>J0 (evI P n S tg iter) (VB sc).length (jsOf S sc) (tgt P n (S.comp sc) tg) mt (ev P n (S.comp sc) elt)
   else stE
  | _=>stE
def evT (P:Pg):Nat->Sc->Expr->T1
 | 0,_,_=>stT
 | n+1,S,e=>match e with
  | .UnaryOp .Not a _=>JB (evT P n S a)
  | .BoolOp .And vs _=>Jze (vs.map (evT P n S))
  | .BoolOp .Or vs _=>tOrs (vs.map (evT P n S))
  | .IfExp .. =>stT
  | .Compare a [o] [b] _=>if Zci o b then stT else Jh asB (Jc (cmpD P.ne o b) (ev P n S a) (ev P n S b))
  | .Compare a [o,o'] [b,c] _=>if Zd5 [o,o'] [b,c] then stT else Jh asB (JW (cmpI o) (cmpI o') (ev P n S a) (ev P n S b) (ev P n S c))
  | .Compare .. =>stT
  | e=>Jh tru (ev P n S e)
def evO (P:Pg):Nat->Sc->Option Expr->O1
 | 0,_,_=>stO
 | _+1,_,Zc=>VF
 | n+1,S,Za e=>QH (ev P n S e)
def Jrl (P:Pg):Nat->Sc->Str->List Expr->E1
 | 0,_,_,_=>stE
 | n+1,S,x,args=>match P.fn x with
  | some f=>Xk f args.length (aAll (args.map (ev P n S)))
  | none=>match P.cls x with
   | some f=>Jod x f args.length (aAll (args.map (ev P n S)))
   | none=>if P.free x then Jjr P S x (ev P n S) args else stE
def evI (P:Pg):Nat->Sc->Expr->Expr->I1
 | 0,_,_,_=>stI
 | n+1,S,tg,e=>match e with
  | .Call (.Name x _) args [] _ =>
   if S.gl x&&P.free x&&args.all J1&&(x=="range") then J0d args.length (aAll (args.map (ev P n S)))
   else if S.gl x&&P.free x&&args.all J1&&(x=="enumerate") then(match tg,args with
    | .Tuple ..,[a]=>iRg QD (Jb (ev P n S a) Jd)
    | _,_=>stI)
   else Jx (ev P n S e)
  | e=>Jx (ev P n S e)
def tgt (P:Pg):Nat->Sc->Expr->G1
 | 0,_,_=>stG
 | n+1,S,e=>match e with
  | .Name x _=>(match S.sto x with
   | some i=>gNm i
   | none=>stG)
  | .Tuple es _ _=>if es.all J1 then gTp es.length (gAll (es.map (tgt P n S))) else stG
  | .Subscript o i _=>if Xs i then gSbF o (ev P n S o) (ev P n S i) else stG
  | _=>stG
end
end
def VI (t:T1)(b:S1):Nat->S1
 | 0,_,_=>.stuck
 | n+1,σ,h=>match t σ h with
  | .ok c h1=>if c then(match b σ h1 with
   | .next σ2 h2=>VI t b n σ2 h2
   | .cont σ2 h2=>VI t b n σ2 h2
   | .brk σ2 h2=>.next σ2 h2
   | .ret v h2=>.ret v h2
   | _=>.stuck) else .next σ h1
  | _=>.stuck
@[irreducible] def XW:Nat:=1000000
def Xt (t:T1)(b:S1):S1:=VI t b XW
def ipI:ZcD->IV->IV->IH->Res IV
 | .Add,.int i,.int j,h=>.ok (.int (i+j)) h
 | _,_,_,_=>.stuck
def sAug (op:ZcD)(i:Nat)(e:E1):S1:=λ σ h=>rS σ (Ja i σ h) λ x h1=>rS σ (e σ h1) λ y h2=>rS σ (ipI op x y h2) λ z h3=>.next (σ.set i (Za z)) h3
def XQ (op:ZcD)(f:Str)(o e:E1):S1:=λ σ h=>rS σ (o σ h) λ ov h1=>match ov with
 | .ref i=>(match h1[i]? with
  | some (.ins _ fs)=>(match fs.lookup f with
   | some x=>rS σ (e σ h1) λ y h2=>rS σ (ipI op x y h2) λ z h3=>(match h3[i]? with
    | some (.ins c gs)=>if gs.length<1000 then .next σ (h3.set i (.ins c (putI f z gs))) else .stuck
    | _=>.stuck)
   | none=>.stuck)
  | _=>.stuck)
 | _=>.stuck
def ixL:IV->IV->IH->Res IV
 | .ref i,.int k,h=>match h[i]? with
  | some (.lst xs)=>(match atI xs k with
   | some v=>if 0<=k then .ok v h else .stuck
   | none=>.stuck)
  | _=>.stuck
 | _,_,_=>.stuck
def VY (op:ZcD)(o k e:E1):S1:=λ σ h=>rS σ (o σ h) λ ov h1=>rS σ (k σ h1) λ kv h2=>rS σ (ixL ov kv h2) λ x h3=>rS σ (e σ h3) λ y h4=>rS σ (ipI op x y h4) λ z h5=>setI ov kv z σ h5
def sAll:List S1->S1
 | []=>Jp
 | [a]=>a
 | a::b::r=>Jg a (sAll (b::r))
def Jyn:Expr->Bool
 | .Tuple .. =>Zj
 | _=>Zg
def Jue:Expr->Bool
 | .Tuple .. =>Zg
 | _=>Zj
def isLC:Expr->Bool
 | .ListComp .. =>Zg
 | _=>Zj
def Jud:Expr->Bool
 | .Subscript .. =>Zg
 | _=>Zj
abbrev Xi:=Str->Option (Str->Option Bool)
section
end
section
end
def Jyz (P:Pg)(f:Str)(o e:E1):S1:=if P.fld f then JR f o e else stS
section
def ex (P:Pg):Nat->Sc->Zdi->S1
 | 0,_,_=>stS
 | n+1,S,st=>match st with
  | .Pass _=>Jy0
  | .Break _=>Jwr
  | .Continue _=>J1x
  | .Expr e _=>if VE e then JD (ev P n S e) else stS
  | .Return Zc _=>Jy1
  | .Return (Za e) _=>Jj (ev P n S e)
  | .If c a b _=>sIf (evT P n S c) (sAll (a.map (ex P n S))) (sAll (b.map (ex P n S)))
  | .While c a [] _=>Xt (evT P n S c) (sAll (a.map (ex P n S)))
  | .For tg it a [] _=>if XD it&&S.own then sFor (evI P n S tg it) (tgt P n S tg) (sAll (a.map (ex P n S))) else stS
  | .Assign [.Name x _] e _=>if VE e||isLC e then(match S.sto x with
   | some i=>Ji i (ev P n S e)
   | none=>stS) else stS
  | .Assign [.Attribute o f _] e _=>if VE e||isLC e then Jyz P f (ev P n S o) (ev P n S e) else stS
  | .Assign [tg] e _=>if VE e&&((Jue tg&&Jyn e)||Jud tg) then sAsg (ev P n S e) (tgt P n S tg) else stS
  | .AugAssign (.Name x _) op e _=>(match S.sto x with
   | some i=>sAug op i (ev P n S e)
   | none=>stS)
  | .AugAssign (.Attribute o f _) op e _=>if P.fld f then XQ op f (ev P n S o) (ev P n S e) else stS
  | .AugAssign (.Subscript o k _) op e _=>if Xs k then VY op (ev P n S o) (ev P n S k) (ev P n S e) else stS
  | _=>stS
end
structure FnD (ce:CeT)(prog:ZA)(w:ZW)(K:W.Frag)(mg:Str->Option Ze)(base:Zas)(k:Nat)(f:Fn)(fa:Zm)(fd:ZaD)(ps:List Str):Prop where
 len:ps.length=f.np
 ok:FnOk prog w K mg base (CXI prog w) k fa fd ps (spI ce K ps f.run)
 dv:∀j,j<=f.dvs.length->∃ds,Qo K fd ps ds/\ds.length=f.dvs.length-j/\∃vs,Vals vs ds/\∀ι H,RVs K ι H (f.dvs.drop j) vs
structure PgOk (ce:CeT)(k:Nat)(P:Pg)(prog:ZA)(w:ZW)(K:W.Frag)(mg:Str->Option Ze)(base:Zas):Prop where
 fn:∀x f,P.fn x=Za f->∃fa fd ps,mg x=Za (.ref fa)/\W.keepIn K (.ref fa)=Zg/\FnD ce prog w K mg base k f fa fd ps
 cls:∀x f,P.cls x=Za f->∃C fa fd ps,mg x=Za (.ref C)/\ce x=Za C/\Mk K C fa/\FnD ce prog w K mg base k f fa fd ps
 meth:∀c m f,P.meth c m=Za f->∃C fa fd ps,ce c=Za C/\Cls K C/\Meth K C m fa/\FnD ce prog w K mg base k f fa fd ps
 con:∀x v,P.con x=Za v->∃u y,mg x=Za u/\RelV y u/\∀ι H,RV K ι H v y
 isa:∀D g,P.isa D=Za g->∃c,mg D=Za c/\IsOk ce K c λ t=>match t with|.ins c=>Za (g c)|.exc _=>Zc|_=>Za Zj
 fld:∀f,P.fld f=Zg->Yh ce K f
 free:∀x,P.free x=Zg->mg x=Zc
 blt:∀q j,P.tabs q=Za j->Q9 mg base
 bas:∀x,P.bas x=Zg->∃C,mg x=Za (.ref C)/\BasK K C
 ne:∀c,P.ne c=Zg->∃C,ce c=Za C/\neIn K C=Zg/\ClsI K C/\W.kitOne K (.ref C) (.type "list")=Za Zj
structure Good (ce:CeT)(k:Nat)(P:Pg)(S:Sc)(X:Cx):Prop where
 n:X.N=S.N
 sc:X.env.scope.names=S.names
 nd:S.N.Nodup
 fk:X.env.scope.kind=.function
 calm:X.calm=Zg
 room:Room (k+1) X.A
 st:S.own=Zg->∀x,X.fn x=Zg
 pg:PgOk ce k P X.prog X.w X.K X.mg X.base
 code:S.own=Zg->W.codeIn X.K X.env.code S.q=Zg/\X.env.qual=S.q++".<locals>."
 room3:S.own=Zg->Room (k+3) X.A
 top:S.own=Zg->X.stack=X.env::X.outer/\X.env.frame=Za X.env.locals
section
variable {ce:CeT}{k:Nat}{P:Pg}{S:Sc}{X:Cx}{α β:Type}{R:REL α β}
theorem Jn {t:Sem β}:PX ce X R t (λ _ _=>.stuck):=λ _ _ _ _ _ _ _ _ _ _ K=>(show False from K).elim
theorem J30 (hh:∀σi h,∃m',m σi h=m' σi h/\PX ce X R t m'):PX ce X R t m:=by
 intro pj s σ H ι σi h Q E N K
 obtain⟨m',e,p⟩:=hh σi h
 rw[e] at K
 exact p pj s σ H ι σi h Q E N K
theorem Y1:PIi ce X tg e stI:=λ _ _ _ _ _ _ _ _ _ _ K=>(show False from K).elim
theorem XG:PGi ce X e stG:=λ _ _ _ _ _ _ _ _ _ _ _ _ _ K=>(show False from K).elim
theorem Qa:PSi ce X t stS:=λ _ _ _ _ _ _ _ _ _ _ K=>(show False from K).elim
theorem Jgx:∀{l:List Str}{i:Nat},ixOf x l=Za i->l[i]?=Za x
 | [],_,h=>by cases h
 | y::r,i,h=>by
  unfold ixOf at h
  split at h
  ·rename_i e
   cases h
   simp[beq_iff_eq.mp e]
  ·obtain⟨j,hj,rfl⟩:=ZF.mp h
   simpa using Jgx hj
theorem Good.kind (G:Good ce k P S X)(x:Str):X.env.kindOf x=S.names.lookup x:=by
 show X.env.scope.names.lookup x=_
 rw[G.sc]
theorem Good.vis (G:Good ce k P S X)(h:S.vis x=Za i):X.N[i]?=Za x/\Vis X.env.scope x/\(x==("__debug__":Str))=Zj/\(x==("__classdict__":Str))=Zj:=by
 unfold Sc.vis at h
 have fin:∀{o:Zbd},(o=.local∨o=.cell∨o=.free)->S.names.lookup x=Za o->(if (x==("__debug__":Str)||x==("__classdict__":Str))=Zg then Zc else ixOf x S.N)=Za i ->
   X.N[i]?=Za x/\Vis X.env.scope x/\(x==("__debug__":Str))=Zj/\(x==("__classdict__":Str))=Zj:=λ ho e h=>by
  split at h
  ·cases h
  ·rename_i hd
   have hd':=ZbT.mpr hd
   rw[ZcR] at hd'
   refine⟨by rw[G.n];exact Jgx h,?_,hd'.1,hd'.2⟩
   unfold Vis
   rw[G.sc,e]
   rcases ho with rfl|rfl|rfl
   ·exact .inl rfl
   ·exact .inr (.inl rfl)
   ·exact .inr (.inr rfl)
 cases e:S.names.lookup x with
 | none=>rw[e] at h;cases h
 | some o =>
  rw[e] at h
  cases o with
  | «local» =>exact fin (.inl rfl) e h
  | cell=>exact fin (.inr (.inl rfl)) e h
  | free=>exact fin (.inr (.inr rfl)) e h
  | _=>cases h
theorem Good.gl (G:Good ce k P S X)(h:S.gl x=Zg):Gl X x/\(x==("__debug__":Str))=Zj/\x≠"__name__":=by
 unfold Sc.gl at h
 simp only[Zq,beq_iff_eq,ZaH] at h
 refine⟨?_,h.1.2,λ e=>?_⟩
 ·show X.env.kindOf x=_
  rw[G.kind]
  exact h.1.1
 ·have:=h.2
  rw[e] at this
  exact absurd this (by decide)
theorem Good.sto (G:Good ce k P S X)(h:S.sto x=Za i):X.N[i]?=Za x/\Loc X.env.scope x/\(X.fn x=Zg∨X.env.scope.names.lookup x=Za .local):=by
 unfold Sc.sto at h
 unfold L2.Loc
 rw[G.sc]
 cases e:S.names.lookup x with
 | none=>rw[e] at h;cases h
 | some o =>
  rw[e] at h
  cases o with
  | «local» =>exact⟨by rw[G.n];exact Jgx h,.inl rfl,.inr rfl⟩
  | cell =>
   dsimp only at h
   split at h
   ·rename_i ho
    exact⟨by rw[G.n];exact Jgx h,.inr rfl,.inl (G.st ho x)⟩
   ·cases h
  | _=>cases h
theorem Good.nodup (G:Good ce k P S X):X.N.Nodup:=by rw[G.n];exact G.nd
theorem J6 (h:J1 a=Zg):ZG (a::es) env=(Zj,Zbe a env)::ZG es env:=by
 cases a<;>first|rfl|cases h
theorem Xu {pos:Pos}{env:Env}:∀{es:List Expr},es.all J1=Zg->(Zbj pos (ZG es env)).any (·.1)=Zj
 | [],_=>rfl
 | a::es,h=>by
  simp only[Zao,Zq] at h
  rw[J6 h.1]
  show(Zj||(Zbj pos (ZG es env)).any (·.1))=Zj
  rw[Xu h.2]<;>rfl
theorem Jid:∀{es:List Expr},es.all J1=Zg->(Zbj pos (ZG es env)).all (λ x=>!x.1)=Zg
 | [],_=>rfl
 | a::es,h=>by
  simp only[Zao,Zq] at h
  rw[J6 h.1]
  show(Zg&&(Zbj pos (ZG es env)).all (λ x=>!x.1))=Zg
  rw[Jid h.2]<;>rfl
theorem Jx0 {es:List Expr}(ha:es.all J1=Zg)(hn:es.length<30):((Zbj pos (ZG es env)).all (λ x=>!x.1)&&(Zd7 pos (Zcx [] env)).all (λ x=>x.1.isSome)
   && decide (es.length+([]:List Zed).length+(if ([]:List Zed).isEmpty then 0 else 1)<30))=Zg:=by
 show((Zbj pos (ZG es env)).all (λ x=>!x.1)&&Zg&&decide (es.length+0+0<30))=Zg
 rw[Jid ha]
 simpa using hn
theorem Yi:∀(l:List E1),ALen l.length (aAll l)
 | []=>Jtm
 | _::r=>Jqu (Yi r)
theorem V4:∀{es:List Expr},es.all J1=Zg->(∀e,PEi ce X e (f e))->PAi ce X es (aAll (es.map f))
 | [],_,_=>Vd
 | a::es,h,hf=>by
  simp only[Zao,Zq] at h
  exact QR (hf a) (V4 h.2 hf) (J6 h.1)
theorem Jwa (hf:∀e,PEi ce X e (f e)):∀(vs:List Expr),PEi ce X (.BoolOp .And vs pos) (Jxr (vs.map f))
 | []=>Jn
 | [a]=>J0n (hf a)
 | a::b::r=>J25 Y6 (hf a) (Jwa hf (b::r))
theorem Jz4 (hf:∀e,PEi ce X e (f e)):∀(vs:List Expr),PEi ce X (.BoolOp .Or vs pos) (eOrs (vs.map f))
 | []=>Jn
 | [a]=>J0n (hf a)
 | a::b::r=>i_or Y6 (hf a) (Jz4 hf (b::r))
theorem Jww (hf:∀e,PTi ce X e (f e)):∀(vs:List Expr),PWi ce X (.BoolOp .And vs pos) (Jze (vs.map f))
 | []=>λ _=>Jn
 | [a]=>Jzg (hf a)
 | a::b::r=>J2d (hf a) (Jww hf (b::r))
theorem J2a (hf:∀e,PTi ce X e (f e)):∀(vs:List Expr),PWi ce X (.BoolOp .Or vs pos) (tOrs (vs.map f))
 | []=>λ _=>Jn
 | [a]=>J2e (hf a)
 | a::b::r=>J4f (hf a) (J2a hf (b::r))
theorem Jwc:∀{es:List Expr},es.all J1=Zg->(∀e,PGi ce X e (f e))->PGsi ce X es (gAll (es.map f))
 | [],_,_=>J0c
 | a::es,h,hf=>by
  simp only[Zao,Zq] at h
  refine Jxz (hf a) (Jwc h.2 hf) ?_
  cases a<;>first|rfl|exact absurd h.1 Zs
theorem Jv5:∀{es:List Expr},es.all J1=Zg->(ZaE es env).length=es.length
 | [],_=>rfl
 | a::es,h=>by
  simp only[Zao,Zq] at h
  have:ZaE (a::es) env=(Zj,ZdJ a env)::ZaE es env:=by cases a<;>first|rfl|exact absurd h.1 Zs
  rw[this,ZB,ZB,Jv5 h.2]
theorem Jqz {env:Env}:∀{es:List Expr},es.all J1=Zg->(ZaE es env).findIdx? (·.1)=Zc
 | [],_=>rfl
 | a::es,h=>by
  simp only[Zao,Zq] at h
  have:ZaE (a::es) env=(Zj,ZdJ a env)::ZaE es env:=by cases a<;>first|rfl|exact absurd h.1 Zs
  rw[this,Zdq,Jqz h.2]
  rfl
theorem J3l (op:ZcD):OpI ce X (ZaQ op) (binI op):=by
 cases op with
 | Add=>exact J3k
 | Sub=>exact J3r
 | Mult=>exact J1d
 | FloorDiv=>exact J1c
 | Mod=>exact J3o
 | Pow=>exact J3q
 | _=>exact λ _ _ _ _ _ _ _ _ _ _ _ _ _ _ _ _ K=>(show False from K).elim
theorem Yy (hu:X.A.units+64<Zeu)(op:CmpOp):OpI ce X (Zav op) (cmpI op):=by
 cases op with
 | Lt=>exact o_lt
 | LtE=>exact o_le
 | Gt=>exact o_gt
 | GtE=>exact o_ge
 | Eq=>exact o_eq hu
 | NotEq=>exact o_ne hu
 | Is=>exact o_is
 | IsNot=>exact Jyo
 | _=>exact λ _ _ _ _ _ _ _ _ _ _ _ _ _ _ _ _ K=>(show False from K).elim
theorem Jwp (hu:X.A.units+64<Zeu)(hn:∀c,ne c=Zg->∃C,ce c=Za C/\neIn X.K C=Zg)(op:CmpOp)(b:Expr):OpI ce X (Zav op) (cmpD ne op b):=by
 unfold cmpD
 split
 ·split
  ·exact J3m
  ·exact λ _ _ _ _ _ _ _ _ _ _ _ _ _ _ _ _ K=>(show False from K).elim
 ·split
  ·exact J3n (by omega)
  ·exact o_lt
 ·exact Yy hu op
theorem J4m (a:Expr):SlI ce X (slD a):=by
 unfold slD
 split
 ·exact J4n
 ·exact x_sl
theorem J4l (a:Expr):IxI ce X (ixD a):=by
 unfold ixD
 split
 ·exact J4k
 ·exact x_ix
theorem o_un (op:UnaryOp):UnI ce X (unaryOp op) (unI op):=by
 cases op with
 | Not=>exact Jzh Y6
 | USub=>exact J4g
 | _=>exact λ _ _ _ _ _ _ _ _ _ _ _ _ _ K=>(show False from K).elim
theorem Jdb (h:VD o=Zg):ZcP o m env w=w:=by
 cases o with
 | Call f as ks p =>
  cases f with
  | Name x q =>
   cases as with
   | nil =>
    cases ks with
    | nil=>cases h
    | cons _ _=>rfl
   | cons _ _=>rfl
  | _=>rfl
 | _=>rfl
theorem Yr (h:XD e=Zg)(x:Ze):ZbS e env x=pure x:=by
 cases e<;>first|rfl|cases h
theorem Jdi (h:VE e=Zg):Zdg e t l env=pure Zj:=by
 cases e<;>first|rfl|cases h
theorem Juh (h:Xs i=Zg):Jqr i:=λ _ _=>by
 cases i<;>first|rfl|cases h
theorem Jh3 {o:Expr}{m:Str}{ap pos:Pos}{es:List Expr}{env:Env}(hb:VD o=Zg)(hs:es.all J1=Zg)(hl:(ap.endLine==pos.line)=Zg)(hn:es.length<30) :
  Zbe (.Call (.Attribute o m ap) es [] pos) env=(do
   let ov<-Zbe o env
   Zez ap.atName
   let (f,first)<-ZbR [ov] (Zd2 ov m (do return(<- importBound o env).getD Zg))
   callWith pos f first (Zbj pos (ZG es env)) (Zd7 pos (Zcx [] env))):=by
 have hform:methodCallForm (es.length+([]:List Zed).length) (Zbj pos (ZG es env)) (Zd7 pos (Zcx [] env))=Zg:=by
  show((Zbj pos (ZG es env)).all (λ x=>!x.1)&&Zg&&decide (es.length+0+0<30))=Zg
  rw[Jid hs]
  simpa using hn
 have hpos:methodCallPos Zg o env ap pos=pure pos:=by unfold methodCallPos;simp[hl]
 rw[arm_eval_Call,Jdb hb]
 unfold methodCall
 rw[hform,hpos]
 rfl
end
section
variable {ce:CeT}{k:Nat}{P:Pg}{S:Sc}{X:Cx}
theorem Jlg (G:Good ce k P S X)(N0 l c:List Str)(js:List Nat)(sc:Zbi):QA N0 l c js X.env.scope sc=QA N0 l c js S.fake sc:=by
 unfold QA
 rw[G.fk,G.sc]
 rfl
theorem Good.comp (G:Good ce k P S X){sc:Zbi}(h:QA S.N (VB sc) (Q3 sc) (jsOf S sc) S.fake sc=Zg)(C:Zm)(s:Zl)(H:Hp)(fp:List Zm):Good ce k P (S.comp sc) (cxC X (VB sc++Q3 sc) sc C s H fp):=by
 simp only[QA,Zq,decide_eq_true_eq] at h
 obtain⟨⟨⟨⟨⟨⟨⟨⟨⟨kF,kF0⟩,kNC⟩,kL⟩,kFr⟩,kFx⟩,kJ⟩,kLen⟩,kNd⟩,kLo⟩:=h
 refine⟨rfl,?_,kNd,kF,G.calm,G.room,λ z=>absurd z Zs,G.pg,λ z=>absurd z Zs,λ z=>absurd z Zs,λ z=>absurd z Zs⟩
 show(relabel sc X.env).names=_
 unfold relabel Sc.comp
 dsimp only
 refine List.map_congr_left λ x _=>?_
 obtain⟨n,kd⟩:=x
 dsimp only
 rw[G.fk,G.kind]
 simp
end
structure Snd (ce:CeT)(k:Nat)(P:Pg)(n:Nat):Prop where
 e:∀S X e,Good ce k P S X->PEi ce X e (ev P n S e)
 t:∀S X e,Good ce k P S X->PTi ce X e (evT P n S e)
 o:∀S X e,Good ce k P S X->PPi ce X e (evO P n S e)
 c:∀S X x args p pos,Good ce k P S X->S.gl x=Zg->args.all J1=Zg->PEi ce X (.Call (.Name x p) args [] pos) (Jrl P n S x args)
 i:∀S X tg e,Good ce k P S X->PIi ce X tg e (evI P n S tg e)
 g:∀S X e,Good ce k P S X->PGi ce X e (tgt P n S e)
section
variable {ce:CeT}{k:Nat}{P:Pg}{n:Nat}{S:Sc}{X:Cx}
theorem Jvd:Snd ce k P 0:=⟨λ _ _ _ _=>Jn,λ _ _ _ _=>Jn,λ _ _ _ _=>Jn,λ _ _ _ _ _ _ _ _ _=>Jn,λ _ _ _ _ _=>Y1,λ _ _ _ _=>XG⟩
theorem Jjy {prog:ZA}{w:ZW}{K:W.Frag}{mg:Str->Option Ze}{base:Zas}{f:Fn}{fa:Zm}{fd:ZaD}{ps:List Str}{m:Nat}{d:List IV}(D:FnD ce prog w K mg base k f fa fd ps)(h:f.fill m=Za d) :
  ∃ds,Qo K fd ps ds/\m+ds.length=ps.length/\∃vs,Vals vs ds/\∀ι H,RVs K ι H d vs:=by
 unfold Fn.fill at h
 split at h
 ·rename_i hz
  cases h
  obtain⟨ds,hb,hl,q⟩:=D.dv (f.dvs.length-(f.np-m)) (by omega)
  exact⟨ds,hb,by rw[hl,D.len];omega,q⟩
 ·cases h
theorem Ju8 (G:Good ce k P S X)(hx:P.fn x=Za f)(hg:S.gl x=Zg){args:List Expr}(ha:args.all J1=Zg)(hf:∀e,PEi ce X e (g e)){p pos:Pos} :
  PEi ce X (.Call (.Name x p) args [] pos) (Xk f args.length (aAll (args.map g))):=by
 obtain⟨fa,fd,ps,hm,hk,D⟩:=G.pg.fn x f hx
 obtain⟨gl,hdb,_⟩:=G.gl hg
 unfold Xk
 cases hd:f.fill args.length with
 | none=>exact Jn
 | some d =>
  obtain⟨ds,hb,hl,q⟩:=Jjy D hd
  have hr:Room k X.A:=G.room.mono (ZaZ k)
  cases args with
  | nil=>exact Jx5 D.ok hr gl hm hk hb q (by simpa using hl) hdb
  | cons a es =>
   have ha':=ha
   simp only[Zao,Zq] at ha'
   refine J0f D.ok hr gl hm hk hb q (V4 ha hf) (λ σ h xs h' e=>?_) hdb (J6 ha'.1) (Xu ha'.2)
   have:=Yi _ σ h xs h' e
   rw[Zi] at this
   rw[this]
   exact hl
theorem Ju9 (G:Good ce k P S X)(hx:P.cls x=Za f)(hg:S.gl x=Zg){args:List Expr}(ha:args.all J1=Zg)(hf:∀e,PEi ce X e (g e)){p pos:Pos} :
  PEi ce X (.Call (.Name x p) args [] pos) (Jod x f args.length (aAll (args.map g))):=by
 obtain⟨C,fa,fd,ps,hm,hC,M,D⟩:=G.pg.cls x f hx
 obtain⟨gl,hdb,_⟩:=G.gl hg
 unfold Jod
 cases hd:f.fill (args.length+1) with
 | none=>exact Jn
 | some d =>
  obtain⟨ds,hb,hl,q⟩:=Jjy D hd
  cases args with
  | nil=>exact Jx8 M D.ok hC G.room gl hm hb q (by simp at hl;omega) hdb
  | cons a es =>
   have ha':=ha
   simp only[Zao,Zq] at ha'
   refine J0j M D.ok hC G.room gl hm hb q (V4 ha hf) (λ σ h xs h' e=>?_) hdb (J6 ha'.1) (Xu ha'.2)
   have:=Yi _ σ h xs h' e
   rw[Zi] at this
   omega
theorem Jrh (G:Good ce k P S X)(m:Str)(n:Nat):Jqq ce X m n (JG P m n):=by
 intro c f dvs h
 unfold JG at h
 cases hm:P.meth c m with
 | none=>rw[hm] at h;cases h
 | some fn =>
  rw[hm] at h
  dsimp only at h
  cases hd:fn.fill (n+1) with
  | none=>rw[hd] at h;cases h
  | some d =>
   rw[hd] at h
   cases h
   obtain⟨C,fa,fd,ps,hC,hcl,hM,D⟩:=G.pg.meth c m fn hm
   obtain⟨ds,hb,hl,q⟩:=Jjy D hd
   exact⟨C,fa,fd,k,ps,ds,hC,hcl,hM,D.ok,G.room.mono (ZaZ k),hb,q,by omega⟩
theorem J2r (h:bmOf T m n=Za g):∃id,PlainAttrs T/\Slot T m id/\typeOf (.builtin id)=pure (.type "method_descriptor")/\MtI ce X T id g:=by
 unfold bmOf at h
 split at h
 ·rename_i hm
  simp only[Zq,beq_iff_eq] at hm
  obtain⟨⟨rfl,rfl⟩,_⟩:=hm
  cases h
  exact⟨_,Zc0,PySem.F.slot_list_append,PySem.F.type_list_append,Jul⟩
 ·split at h
  ·rename_i hm
   simp only[Zq,beq_iff_eq] at hm
   obtain⟨⟨rfl,rfl⟩,_⟩:=hm
   cases h
   exact⟨_,Zc0,PySem.F.slot_list_pop,PySem.F.type_list_pop,J05⟩
  ·split at h
   ·rename_i hm
    simp only[Zq,beq_iff_eq] at hm
    obtain⟨⟨rfl,rfl⟩,_⟩:=hm
    cases h
    exact⟨_,Zc0,PySem.F.slot_list_remove,PySem.F.type_list_remove,Jum⟩
   ·split at h
    ·rename_i hm
     simp only[Zq,beq_iff_eq] at hm
     obtain⟨⟨rfl,rfl⟩,_⟩:=hm
     cases h
     exact⟨_,PySem.F.plainAttrs_str,PySem.F.slot_str_join,PySem.F.type_str_join,J04⟩
    ·split at h
     ·rename_i hm
      simp only[Zq,beq_iff_eq] at hm
      obtain⟨⟨rfl,rfl⟩,_⟩:=hm
      cases h
      exact⟨_,PySem.F.plainAttrs_dict,ZcY,PySem.F.type_dict_setdefault,Jun⟩
     ·cases h
theorem J18 {o:Expr}{m:Str}{mo:E1}{args:List Expr}{f:Expr->E1}{ap pos:Pos}{T:String}{g:IV->List IV->IH->Res IV}{n:Nat}(hg:bmOf T m n=Za g)(ho:PEi ce X o mo)(hf:∀e,PEi ce X e (f e))(ha:args.all J1=Zg)(hb:VD o=Zg)(hl:(ap.endLine==pos.line)=Zg)(hn:args.length<30) :
  PEi ce X (.Call (.Attribute o m ap) args [] pos) (eBm T g mo (aAll (args.map f))):=by
 obtain⟨id,pa,sl,ty,mt⟩:=J2r (ce:=ce) (X:=X) hg
 cases args with
 | nil=>exact J27 pa sl ty mt ho (Jdb hb) hl
 | cons a es =>
  have ha':=ha
  simp only[Zao,Zq] at ha'
  exact i_bm pa sl ty mt ho (V4 ha hf) (Jdb hb) (Jx0 ha hn) hl (J6 ha'.1) (Xu ha'.2)
theorem Jy6 (G:Good ce k P S X){o:Expr}{m:Str}{mo:E1}{args:List Expr}{f:Expr->E1}{ap pos:Pos}(ho:PEi ce X o mo)(hf:∀e,PEi ce X e (f e))(ha:args.all J1=Zg)(hb:VD o=Zg)(hl:(ap.endLine==pos.line)=Zg)(hn:args.length<30) :
  PEi ce X (.Call (.Attribute o m ap) args [] pos) (Jo P m args.length mo (aAll (args.map f))):=by
 refine J30 λ σi h=>?_
 unfold Jo
 cases e:mo σi h with
 | exc n h1=>exact⟨λ _ _=>.stuck,rfl,Jn⟩
 | stuck=>exact⟨λ _ _=>.stuck,rfl,Jn⟩
 | ok v h1 =>
  dsimp only
  split
  ·refine⟨_,rfl,?_⟩
   cases args with
   | nil=>exact Jx9 ho (Jrh G m 0) (Jh3 hb ha hl hn)
   | cons a es =>
    have ha':=ha
    simp only[Zao,Zq] at ha'
    refine J0l ho (Jrh G m (a::es).length) (V4 ha hf) (λ σ h xs h' e=>?_) (J6 ha'.1) (Xu ha'.2) (Jh3 hb ha hl hn)
    have:=Yi _ σ h xs h' e
    rwa [Zi] at this
  ·cases hg:bmOf (tyS v h1) m args.length with
   | none=>exact⟨λ _ _=>.stuck,rfl,Jn⟩
   | some g=>exact⟨_,rfl,J18 hg ho hf ha hb hl hn⟩
theorem Ju5 (G:Good ce k P S X){o:Expr}{m:Str}{mo:E1}{args:List Expr}{f:Expr->E1}{ap pos:Pos}(ho:PEi ce X o mo)(hf:∀e,PEi ce X e (f e))(ha:args.all J1=Zg)(hb:VD o=Zg)(hl:(ap.endLine==pos.line)=Zg)(hn:args.length<30) :
  PEi ce X (.Call (.Attribute o m ap) args [] pos) (Jxs P m args.length (Jn5 P S m o) mo (aAll (args.map f))):=by
 cases eb:Jn5 P S m o with
 | none=>exact Jy6 G ho hf ha hb hl hn
 | some g =>
  cases o with
  | Name x q =>
   have eb2:(if m=="__init__"&&S.gl x&&P.bas x then P.cls x else Zc)=Za g:=eb
   clear eb
   split at eb2
   ·rename_i hq
    simp only[Zq,beq_iff_eq] at hq
    obtain⟨⟨rfl,hg⟩,hx⟩:=hq
    obtain⟨C,fa,fd,ps,hm,hC,M,D⟩:=G.pg.cls x g eb2
    obtain⟨C',hm',B⟩:=G.pg.bas x hx
    rw[hm] at hm'
    cases hm'
    obtain⟨gl,hdb,_⟩:=G.gl hg
    show PEi ce X _ (if args.length=0 then stE else Xk g args.length (aAll (args.map f)))
    split
    ·exact Jn
    rename_i hz
    unfold Xk
    cases hd:g.fill args.length with
    | none=>exact Jn
    | some d =>
     obtain⟨ds,hb',hl',q⟩:=Jjy D hd
     have hr:Room k X.A:=G.room.mono (ZaZ k)
     cases args with
     | nil=>exact absurd rfl hz
     | cons a es =>
      have ha':=ha
      simp only[Zao,Zq] at ha'
      refine J0e D.ok hr gl hm B M hb' q (V4 ha hf) (λ σ h xs h' e=>?_) hdb (J6 ha'.1) (Xu ha'.2) (Jh3 hb ha hl hn)
      have:=Yi _ σ h xs h' e
      rw[Zi] at this
      rw[this]
      exact hl'
   ·cases eb2
  | _=>cases eb
theorem Jy7 (G:Good ce k P S X){a:Expr}{ma:E1}{y:Str}{p p2 pos:Pos}(ha:PEi ce X a ma)(hs:J1 a=Zg)(hg:S.gl "isinstance"=Zg)(hfr:P.free "isinstance"=Zg)(hy:S.gl y=Zg) :
  PEi ce X (.Call (.Name "isinstance" p) [a,.Name y p2] [] pos) (Jxt (Jtn P y) ma):=by
 unfold Jxt
 cases e:Jtn P y with
 | none=>exact Jn
 | some ans =>
  obtain⟨gy,ydb,yn⟩:=G.gl hy
  have fin:∀{c:Ze},ClsE X (.Name y p2) c->IsOk ce X.K c ans->PEi ce X (.Call (.Name "isinstance" p) [a,.Name y p2] [] pos) (eIsi ans ma):=λ hc O =>
   J3b hc O ha (G.gl hg).1 (G.pg.free _ hfr) rfl (J6 hs) rfl rfl
  unfold Jtn at e
  cases hi:P.isa y with
  | some g =>
   rw[hi] at e
   cases e
   obtain⟨c,hm,O⟩:=G.pg.isa y g hi
   exact fin (Jxl gy hm ydb) O
  | none =>
   rw[hi] at e
   dsimp only at e
   split at e
   ·rename_i hf
    have hm:=G.pg.free y hf
    split at e
    ·rename_i q;cases (beq_iff_eq.mp q);cases e;exact fin (Yl gy hm rfl yn ydb) Jua
    ·split at e
     ·rename_i q;cases (beq_iff_eq.mp q);cases e;exact fin (Yl gy hm rfl yn ydb) Jry
     ·split at e
      ·rename_i q;cases (beq_iff_eq.mp q);cases e;exact fin (Yl gy hm rfl yn ydb) Jub
      ·split at e
       ·rename_i q
        cases (beq_iff_eq.mp q)
        cases e
        refine fin (Yl gy hm rfl yn ydb) ?_
        split
        ·rename_i q
         refine Jp3 λ C hC=>?_
         obtain⟨C',h1,_,h2⟩:=G.pg.ne _ q
         cases hC.symm.trans h1
         exact h2
        ·exact Jl0
       ·split at e
        ·rename_i q;cases (beq_iff_eq.mp q);cases e;exact fin (Yl gy hm rfl yn ydb) Juc
        ·cases e
   ·cases e
theorem Ju6 (G:Good ce k P S X){a:Expr}{ma:E1}{x:Str}{p pos:Pos}(ha:PEi ce X a ma)(hs:J1 a=Zg)(hg:S.gl x=Zg)(hfr:P.free x=Zg)(hx:Jrw x=Zg) :
  PEi ce X (.Call (.Name x p) [a] [] pos) (eCB (bltF x) (Jb ma Jd)):=by
 obtain⟨gx,xdb,xn⟩:=G.gl hg
 have hm:=G.pg.free x hfr
 have hh:=G.room.hd
 have pa:PAi ce X [a] (Jb ma Jd):=QR ha Vd (J6 hs)
 unfold Jrw at hx
 simp only[Za1,beq_iff_eq] at hx
 rcases hx with((((rfl|rfl)|rfl)|rfl)|rfl)|rfl
 ·exact V7 J2t gx hm rfl pa xn xdb (J6 hs) rfl
 ·exact V7 (J2s hh) gx hm rfl pa xn xdb (J6 hs) rfl
 ·exact V7 (J2w hh) gx hm rfl pa xn xdb (J6 hs) rfl
 ·exact V7 Jtq gx hm rfl pa xn xdb (J6 hs) rfl
 ·exact V7 (Jzz hh) gx hm rfl pa xn xdb (J6 hs) rfl
 ·exact V7 (Jzy hh) gx hm rfl pa xn xdb (J6 hs) rfl
theorem Ju7 (G:Good ce k P S X){a:Expr}{ma:E1}{x:Str}{p pos:Pos}(ha:PEi ce X a ma)(hs:J1 a=Zg)(hg:S.gl x=Zg)(hfr:P.free x=Zg)(hx:Jrx x=Zg) :
  PEi ce X (.Call (.Name x p) [a] [] pos) (eCB (bltT x) (Jb ma Jd)):=by
 obtain⟨gx,xdb,xn⟩:=G.gl hg
 have hm:=G.pg.free x hfr
 have pa:PAi ce X [a] (Jb ma Jd):=QR ha Vd (J6 hs)
 unfold Jrx at hx
 simp only[Za1,beq_iff_eq] at hx
 rcases hx with(rfl|rfl)|rfl
 ·exact Jne Jzx gx hm rfl pa xn xdb (J6 hs) rfl
 ·exact Jne Jxk gx hm rfl pa xn xdb (J6 hs) rfl
 ·exact Jne Jzv gx hm rfl pa xn xdb (J6 hs) rfl
theorem Js0 (G:Good ce k P S X)(hf:∀e,PEi ce X e (f e)){args:List Expr}{p pos:Pos}(hg:S.gl x=Zg)(ha:args.all J1=Zg)(hfr:P.free x=Zg) :
  PEi ce X (.Call (.Name x p) args [] pos) (Jjr P S x f args):=by
 unfold Jjr
 split
 ·rename_i a b
  simp only[Zao,Zq] at ha
  obtain⟨gx,xdb,xn⟩:=G.gl hg
  have hm:=G.pg.free x hfr
  have pa:PAi ce X [a,b] (Jb (f a) (Jb (f b) Jd)):=QR (hf a) (QR (hf b) Vd (J6 ha.2.1)) (J6 ha.1)
  have h1:∀pos,(Zbj pos (ZG [b] X.env)).any (·.1)=Zj:=λ pos=>Xu (by simp[ha.2.1])
  split
  ·rename_i hs
   cases (beq_iff_eq.mp hs)
   exact V7 (J2u G.calm) gx hm rfl pa xn xdb (J6 ha.1) (h1 _)
  ·split
   ·rename_i hs
    cases (beq_iff_eq.mp hs)
    exact V7 (J2v G.calm) gx hm rfl pa xn xdb (J6 ha.1) (h1 _)
   ·split
    ·rename_i y p2 _
     split
     ·rename_i hs
      simp only[Zq,beq_iff_eq] at hs
      obtain⟨rfl,hy⟩:=hs
      exact Jy7 G (hf a) ha.1 hg hfr hy
     ·exact Jn
    ·exact Jn
 ·rename_i a
  simp only[Zao,Zq] at ha
  split
  ·rename_i e he
   split at he
   ·rename_i hc
    simp only[Zq,beq_iff_eq] at hc
    obtain⟨⟨rfl,g2⟩,f2⟩:=hc
    unfold Jwt at he
    split at he
    ·split at he
     ·rename_i hq
      simp only[Zq,beq_iff_eq] at hq
      obtain⟨rfl,ns⟩:=hq
      cases he
      exact Jt7 G.room.hd (G.gl hg).1 (G.pg.free _ hfr) (G.gl g2).1 (G.pg.free _ f2) (QR (hf e) Vd (J6 ns)) (J6 ns)
     ·cases he
    ·cases he
   ·cases he
  ·split
   ·rename_i e he
    split at he
    ·rename_i hc
     simp only[Zq,beq_iff_eq] at hc
     obtain⟨⟨rfl,g2⟩,f2⟩:=hc
     unfold Jop at he
     split at he
     ·split at he
      ·rename_i hq
       simp only[Zq,beq_iff_eq] at hq
       obtain⟨rfl,ns⟩:=hq
       cases he
       exact Jn
      ·cases he
     ·cases he
    ·cases he
   ·split
    ·rename_i hq
     simp only[Zq,beq_iff_eq] at hq
     obtain⟨rfl,_⟩:=hq
     exact V7 Jzw (G.gl hg).1 (G.pg.free _ hfr) rfl (QR (hf a) Vd (J6 ha.1)) (by decide) rfl (J6 ha.1) rfl
    split
    ·rename_i hb
     exact Ju6 G (hf a) ha.1 hg hfr hb
    ·split
     ·rename_i hb
      exact Ju7 G (hf a) ha.1 hg hfr hb
     ·exact Jn
 ·exact Jn
theorem QF.of (G:Good ce k P S X)(h:QF S y sc=Zg):LamSc X.N X.env.scope.names y (Q3 sc) (jsOf S sc) sc:=by
 rw[G.n,G.sc]
 simp only[QF,Zq,beq_iff_eq,ZaH,decide_eq_true_eq,Zbf,Za1,beq_eq_false_iff_ne] at h
 obtain⟨⟨⟨⟨⟨⟨⟨h1,h2⟩,h3⟩,h4⟩,h5⟩,h6⟩,h7⟩,h8⟩:=h
 refine⟨h1,h2,h3,h4,h5,λ z hz e=>(h6 z hz).resolve_left λ q=>q e,λ z e=>Zaf e,λ i j z ej ez=>?_,by simp[jsOf],h8⟩
 unfold jsOf at ej
 rw[Zv,ez] at ej
 cases ej
 exact h7 z (ZbV ez)
theorem Good.lam (G:Good ce k P S X)(ho:S.own=Zg){y:Str}{sc:Zbi}(h:QF S y sc=Zg)(f:Zm)(cd:Ze)(s:Zl)(H:Hp):Good ce k P (S.lam y sc) (cxL X X.A.in1 (y::Q3 sc) S.q sc f cd s H):=by
 have L:=QF.of G h
 exact⟨rfl,rfl,L.nd,L.kind,rfl,(G.room3 ho).in1.deeper _,λ z=>absurd z Zs,G.pg,λ z=>absurd z Zs,λ z=>absurd z Zs,λ z=>absurd z Zs⟩
theorem Good.lam2 (G:Good ce k P S X)(ho:S.own=Zg){y:Str}{sc:Zbi}(h:QF S y sc=Zg)(f:Zm)(cd:Ze)(s:Zl)(H:Hp):Good ce k P (S.lam y sc) (cxL X X.A.in1.in1 (y::Q3 sc) S.q sc f cd s H):=by
 have L:=QF.of G h
 have R:=G.room3 ho
 refine⟨rfl,rfl,L.nd,L.kind,rfl,⟨R.hd,?_,?_⟩,λ z=>absurd z Zs,G.pg,λ z=>absurd z Zs,λ z=>absurd z Zs,λ z=>absurd z Zs⟩
 ·have:=R.dp
  show X.A.depth+1+3*(k+1)+5<_
  omega
 ·have:=R.un
  show X.A.units+1+1+3+16*(k+1)+200<_
  omega
theorem Jql (G:Good ce k P S X)(hf:∀S X e,Good ce k P S X->PEi ce X e (f S e)):PEi ce X (.Call (.Name x p) [a] [⟨Za y,.Lambda ps body sc lp,kp⟩,⟨Za y2,d,kp2⟩] pos) (Js1 P S f x a y ps body sc y2 d):=by
 unfold Js1
 split
 ·rename_i e z j he hy hj
  split
  ·rename_i hq
   simp only[Zq,beq_iff_eq] at hq
   obtain⟨⟨⟨⟨⟨⟨⟨⟨⟨rfl,rfl⟩,rfl⟩,ht⟩,g1⟩,f1⟩,g2⟩,f2⟩,ho⟩,ok⟩:=hq
   unfold Jop at he
   unfold J0o at ht
   split at he
   ·split at he
    ·rename_i hc
     simp only[Zq,beq_iff_eq] at hc
     obtain⟨rfl,ns⟩:=hc
     cases he
     split at ht
     ·exact Jt9 (k:=k) G.room.hd (G.gl g1).1 (G.pg.free _ f1) (G.gl g2).1 (G.pg.free _ f2) (QR (hf _ _ _ G) Vd (J6 ns)) (J6 ns) (G.room3 ho) (G.code ho).1 (G.code ho).2 (G.pg.blt _ _ hj) hy (QF.of G ok) λ f cd s' H'=>hf _ _ _ (G.lam2 ho ok f cd s' H')
     ·cases ht
    ·cases he
   ·cases he
  ·exact Jn
 ·exact Jn
theorem Jva (G:Good ce k P S X)(hf:∀S X e,Good ce k P S X->PEi ce X e (f S e)):PEi ce X (.Call (.Name x p) [a] [⟨Za y,d,kp⟩] pos) (minK P S f x a y d):=by
 cases d with
 | Lambda ps body sc lp =>
  show PEi ce X _ (match Vn ps,P.tabs S.q with|some z,Za j=>if x=="min"&&y=="key"&&S.gl x&&P.free x&&J1 a&&S.own&&QF S z sc then X4 ltT S.q j (jsOf S sc) (Jb (f S a) Jd) (f (S.lam z sc) body) else stE|_,_=>stE)
  cases hy:Vn ps with
  | none=>exact Jn
  | some z =>
   cases hj:P.tabs S.q with
   | none=>exact Jn
   | some j =>
    dsimp only
    split
    ·rename_i hq
     simp only[Zq,beq_iff_eq] at hq
     obtain⟨⟨⟨⟨⟨⟨rfl,rfl⟩,g1⟩,f1⟩,ns⟩,ho⟩,ok⟩:=hq
     exact J0m (k:=k+1) (G.gl g1).1 (G.pg.free _ f1) (QR (hf _ _ _ G) Vd (J6 ns)) (λ A h=>Jxm (by omega)) (J6 ns) (G.room3 ho) (G.code ho).1 (G.code ho).2 (G.pg.blt _ _ hj) hy (QF.of G ok) λ f cd s' H'=>hf _ _ _ (G.lam ho ok f cd s' H')
    ·exact Jn
 | _=>exact Jn
theorem J19 (G:Good ce k P S X)(hf:∀S X e,Good ce k P S X->PEi ce X e (f S e)):PEi ce X (.Call (.Name x p) args kws pos) (Jr5 P S f x args kws):=by
 unfold Jr5
 split
 ·split
  ·rename_i hq
   simp only[Zq,beq_iff_eq] at hq
   obtain⟨⟨⟨⟨rfl,rfl⟩,g1⟩,f1⟩,ns⟩:=hq
   exact J0k G.room.hd (G.gl g1).1 (G.pg.free _ f1) (QR (hf _ _ _ G) Vd (J6 ns)) (hf _ _ _ G) (J6 ns)
  ·exact Jva G hf
 ·exact Jql G hf
 ·exact Jn
theorem Jvc (ih:Snd ce k P n):Snd ce k P (n+1):=by
 refine⟨λ S X e G=>?_,λ S X e G=>?_,λ S X e G=>?_,λ S X x args p pos G hg ha=>?_,λ S X tg e G=>?_,λ S X e G=>?_⟩
 ·have ihe:=λ e=>ih.e S X e G
  have hu:=G.room.units
  cases e with
  | Constant c j p =>
   cases c with
   | int i=>exact J3a
   | bool b=>exact i_bl
   | none=>exact J3d
   | str x=>exact J3e
   | _=>exact Jn
  | Name x p =>
   show PEi ce X (.Name x p) (match S.vis x with|some i=>Ja i|none=>if S.gl x then(match P.con x with|some v=>eC v|none=>stE) else stE)
   cases hv:S.vis x with
   | some i =>
    obtain⟨h1,h2,h3,h4⟩:=G.vis hv
    exact J3g i h1 h2 h3 h4
   | none =>
    dsimp only
    split
    ·rename_i hg
     obtain⟨gx,xdb,_⟩:=G.gl hg
     cases hc:P.con x with
     | none=>exact Jn
     | some v =>
      obtain⟨u,y,hm,r,q⟩:=G.pg.con x v hc
      exact J0i gx hm r q xdb
    ·exact Jn
  | BinOp a op b p=>exact J26 (J3l op) (ihe a) (ihe b)
  | UnaryOp op a p=>exact i_un (o_un op) (ihe a)
  | BoolOp op vs p =>
   cases op with
   | And=>exact Jwa ihe vs
   | Or=>exact Jz4 ihe vs
  | IfExp t a b p=>exact Jx7 (ih.t S X t G) (ihe a) (ihe b)
  | Compare a ops cs p =>
   match ops,cs with
   | [o],[b] =>
    show PEi ce X _ (if Zci o b then stE else Jc (cmpD P.ne o b) (ev P n S a) (ev P n S b))
    split
    ·exact Jn
    ·rename_i hb
     exact J28 (Jwp hu (λ c z=>let ⟨C,p,q,_⟩:=G.pg.ne c z;⟨C,p,q⟩) o b) (ihe a) (ihe b) (ZbT.mpr hb)
   | [o,o'],[b,c] =>
    show PEi ce X _ (if Zd5 [o,o'] [b,c] then stE else JW (cmpI o) (cmpI o') (ev P n S a) (ev P n S b) (ev P n S c))
    split
    ·exact Jn
    ·rename_i hb
     exact Jx6 (Yy hu o) (Yy hu o') (ihe a) (ihe b) (ihe c) (ZbT.mpr hb)
   | [],_=>exact Jn
   | [_],[]=>exact Jn
   | [_],_::_::_=>exact Jn
   | [_,_],[]=>exact Jn
   | [_,_],[_]=>exact Jn
   | [_,_],_::_::_::_=>exact Jn
   | _::_::_::_,_=>exact Jn
  | Tuple es j p =>
   show PEi ce X _ (if es.all J1 then J8 (aAll (es.map (ev P n S))) else stE)
   split
   ·rename_i hs
    exact J3f (V4 hs ihe)
   ·exact Jn
  | List es p =>
   show PEi ce X _ (if es.all J1 then Jw (aAll (es.map (ev P n S))) else stE)
   split
   ·rename_i hs
    exact J3c (V4 hs ihe)
   ·exact Jn
  | Dict ks vs p =>
   match ks,vs with
   | [Za k],[v]=>exact Jn
   | [],[]=>exact J0g
   | [],_::_=>exact Jn
   | [Zc],_=>exact Jn
   | [Za _],[]=>exact Jn
   | [Za _],_::_::_=>exact Jn
   | some _::_::_,_=>exact Jn
   | none::_::_,_=>exact Jn
  | Subscript a i p =>
   cases i with
   | Slice lo hi st q =>
    cases st with
    | none=>exact Jya (J4m a) (ihe a) (ih.o S X lo G) (ih.o S X hi G)
    | some st=>exact Jn
   | _=>exact i_ix (J4l a) (ihe a) (ihe _) (Juh rfl)
  | Attribute o f p =>
   show PEi ce X _ (if VD o&&P.fld f then Jq f (ev P n S o) else stE)
   split
   ·rename_i hs
    simp only[Zq] at hs
    exact J29 (ihe o) (G.pg.fld f hs.2) (Jdb hs.1)
   ·exact Jn
  | Call f args kws p =>
   cases kws with
   | cons kw kws =>
    cases f with
    | Name x q=>exact J19 G λ S X e G=>ih.e S X e G
    | _=>exact Jn
   | nil =>
    cases f with
    | Name x q =>
     show PEi ce X _ (if S.gl x&&args.all J1 then Jrl P n S x args else stE)
     split
     ·rename_i hs
      simp only[Zq] at hs
      exact ih.c S X x args q p G hs.1 hs.2
     ·exact Jn
    | Attribute o m ap =>
     show PEi ce X _ (if args.all J1&&VD o&&(ap.endLine==p.line)&&decide (args.length<30) then Jxs P m args.length (Jn5 P S m o) (ev P n S o) (aAll (args.map (ev P n S))) else stE)
     split
     ·rename_i hs
      simp only[Zq,decide_eq_true_eq] at hs
      exact Ju5 G (ihe o) ihe hs.1.1.1 hs.1.1.2 hs.1.2 hs.2
     ·exact Jn
    | _=>exact Jn
  | ListComp elt gens sc p =>
   match gens with
   | [⟨tg,iter,ifs,as⟩] =>
    show PEi ce X _ (if as=0/\XD iter=Zg/\QA S.N (VB sc) (Q3 sc) (jsOf S sc) S.fake sc=Zg then
     Jra ifs (evT P n (S.comp sc)) (λ mt=>J0 (evI P n S tg iter) (VB sc).length (jsOf S sc) (tgt P n (S.comp sc) tg) mt (ev P n (S.comp sc) elt)) else stE)
    split
    ·rename_i hs
     obtain⟨rfl,hi,ok⟩:=hs
     have Gc:=G.comp ok
     have ok':=ok
     rw[<- Jlg G] at ok'
     match ifs with
     | []=>exact Jwd G.calm (ih.i S X tg iter G) (λ C s H fp=>ih.g _ _ tg (Gc C s H fp)) (λ C s H fp=>Jw0) (λ C s H fp=>ih.e _ _ elt (Gc C s H fp)) ok' G.n rfl (Yr hi)
     | [c]=>exact Jwd G.calm (ih.i S X tg iter G) (λ C s H fp=>ih.g _ _ tg (Gc C s H fp)) (λ C s H fp=>Jw1 (ih.t _ _ c (Gc C s H fp))) (λ C s H fp=>ih.e _ _ elt (Gc C s H fp)) ok' G.n rfl (Yr hi)
     | _::_::_=>exact Jn
    ·exact Jn
   | []=>exact Jn
   | ⟨_,_,_,_⟩::_::_=>exact Jn
  | _=>exact Jn
 ·have ihe:=λ e=>ih.e S X e G
  have hu:=G.room.units
  cases e with
  | UnaryOp op a p =>
   cases op with
   | Not=>exact J4c (ih.t S X a G)
   | _=>exact J2b Y6 (ihe _)
  | BoolOp op vs p =>
   cases op with
   | And=>exact(Jww (λ e=>ih.t S X e G) vs).t
   | Or=>exact(J2a (λ e=>ih.t S X e G) vs).t
  | IfExp t a b p=>exact Jn
  | Compare a ops cs p =>
   match ops,cs with
   | [o],[b] =>
    show PTi ce X _ (if Zci o b then stT else Jh asB (Jc (cmpD P.ne o b) (ev P n S a) (ev P n S b)))
    split
    ·exact Jn
    ·rename_i hb
     exact J4b (Jwp hu (λ c z=>let ⟨C,p,q,_⟩:=G.pg.ne c z;⟨C,p,q⟩) o b) (ihe a) (ihe b) (ZbT.mpr hb)
   | [o,o'],[b,c] =>
    show PTi ce X _ (if Zd5 [o,o'] [b,c] then stT else Jh asB (JW (cmpI o) (cmpI o') (ev P n S a) (ev P n S b) (ev P n S c)))
    split
    ·exact Jn
    ·rename_i hb
     exact Jzf (Yy hu o) (Yy hu o') (ihe a) (ihe b) (ihe c) (ZbT.mpr hb)
   | [],_=>exact Jn
   | [_],[]=>exact Jn
   | [_],_::_::_=>exact Jn
   | [_,_],[]=>exact Jn
   | [_,_],[_]=>exact Jn
   | [_,_],_::_::_::_=>exact Jn
   | _::_::_::_,_=>exact Jn
  | _=>exact J2b Y6 (ihe _)
 ·cases e with
  | none=>exact J1l
  | some e=>exact J1m (ih.e S X e G)
 ·have ihe:=λ e=>ih.e S X e G
  show PEi ce X _ (match P.fn x with
  | some f=>Xk f args.length (aAll (args.map (ev P n S)))
  | none=>match P.cls x with
   | some f=>Jod x f args.length (aAll (args.map (ev P n S)))
   | none=>if P.free x then Jjr P S x (ev P n S) args else stE)
  cases hx:P.fn x with
  | some f=>exact Ju8 G hx hg ha ihe
  | none =>
   dsimp only
   cases hc:P.cls x with
   | some f=>exact Ju9 G hc hg ha ihe
   | none =>
    dsimp only
    split
    ·rename_i hfr
     exact Js0 G ihe hg ha hfr
    ·exact Jn
 ·have ihe:=λ e=>ih.e S X e G
  cases e with
  | Call f args kws p =>
   cases kws with
   | cons _ _=>cases f<;>exact Jt6 (ihe _)
   | nil =>
    cases f with
    | Name x q =>
     show PIi ce X tg _ (if S.gl x&&P.free x&&args.all J1&&(x=="range") then J0d args.length (aAll (args.map (ev P n S)))
      else if S.gl x&&P.free x&&args.all J1&&(x=="enumerate") then(match tg,args with
       | .Tuple ..,[a]=>iRg QD (Jb (ev P n S a) Jd)
       | _,_=>stI)
      else Jx (ev P n S (.Call (.Name x q) args [] p)))
     split
     ·rename_i hs
      simp only[Zq,beq_iff_eq] at hs
      obtain⟨⟨⟨hg,hf⟩,ha⟩,rfl⟩:=hs
      obtain⟨gx,_,_⟩:=G.gl hg
      have hm:=G.pg.free _ hf
      have pa:=V4 ha ihe
      match args,ha,pa with
      | [],_,_=>exact Y1
      | [a],ha,pa =>
       simp only[Zao,Zq] at ha
       exact Jt8 gx hm pa (J6 ha.1)
      | [a,b],ha,pa =>
       simp only[Zao,Zq] at ha
       exact Y1
      | _::_::_::_,_,_=>exact Y1
     ·split
      ·rename_i hs
       simp only[Zq,beq_iff_eq] at hs
       obtain⟨⟨⟨hg,hf⟩,ha⟩,rfl⟩:=hs
       obtain⟨gx,_,_⟩:=G.gl hg
       have hm:=G.pg.free _ hf
       split
       ·simp only[Zao,Zq] at ha
        exact J0h gx hm (QR (ihe _) Vd (J6 ha.1)) (J6 ha.1)
       ·exact Y1
      ·exact Jt6 (ihe _)
    | _=>exact Jt6 (ihe _)
  | _=>exact Jt6 (ihe _)
 ·cases e with
  | Name x p =>
   show PGi ce X _ (match S.sto x with|some i=>gNm i|none=>stG)
   cases hv:S.sto x with
   | none=>exact XG
   | some i =>
    obtain⟨h1,h2,h3⟩:=G.sto hv
    exact g_nm G.nodup h1 h2 h3
  | Tuple es j p =>
   show PGi ce X _ (if es.all J1 then gTp es.length (gAll (es.map (tgt P n S))) else stG)
   split
   ·rename_i hs
    exact J22 G.calm (Jwc hs λ e=>ih.g S X e G) (Jv5 hs) (Jqz hs)
   ·exact XG
  | Subscript o i p =>
   show PGi ce X _ (if Xs i then gSbF o (ev P n S o) (ev P n S i) else stG)
   split
   ·rename_i hs
    unfold gSbF
    split
    ·refine Jz8 (ih.e S X o G) (ih.e S X i G) λ v=>?_
     cases i<;>first|rfl|cases hs
    ·exact XG
   ·exact XG
  | _=>exact XG
theorem Jkj (ce:CeT)(k:Nat)(P:Pg):∀n,Snd ce k P n
 | 0=>Jvd
 | n+1=>Jvc (Jkj ce k P n)
end
section
variable {ce:CeT}{X:Cx}{pos:Pos}
theorem Jy3 {c:Expr}{body:List Zdi}{mt:T1}{mb:S1}(hc:PTi ce X c mt)(hb:PS2 ce X body mb):PS1 ce X (.While c body [] pos) (Xt mt mb):=by
 intro pj s σ H ι σi h Q E N K
 unfold Xt at K
 generalize XW=m0 at K
 refine wpAny_While (codeAny_whileLoop (λ n s'=>∃ιk σk hk σ' H',Now ce X pj ιk σk hk σ' H' s'/\Nxt ι H ιk H'/\JL ce X pj ιk H' (VI mt mb n σk hk) Q E) ?_ m0 ⟨ι,σi,h,σ,H,N,.refl,K⟩)
 rintro n s1 ⟨ι1,σ1i,h1,σ1,H1,N1,n1,K1⟩
 cases n with
 | zero=>exact Zf K1
 | succ n =>
  unfold VI at K1
  refine nof (hc pj s1 σ1 H1 ι1 σ1i h1 _ (λ _ _=>False) N1 ?_)
  cases et:mt σ1i h1 with
  | exc m h2=>rw[et] at K1;exact Zf K1
  | stuck=>rw[et] at K1;exact Zf K1
  | ok b h2 =>
   rw[et] at K1
   intro b' s2 H2 ι2 N2 n2 r2
   have r':b'=b:=r2
   subst r'
   dsimp only at K1
   cases b' with
   | false=>exact ZcW (K1 s2 σ1 H2 ι2 N2 n2)
   | true =>
    rw[if_pos rfl]
    rw[if_pos rfl] at K1
    refine nof (hb pj s2 σ1 H2 ι2 σ1i h2 _ (λ _ _=>False) N2 ?_)
    cases eb:mb σ1i h2 with
    | next σ3 h3 =>
     rw[eb] at K1
     exact λ s3 σ3' H3 ι3 N3 n3=>⟨n,Za2 n,ι3,σ3,h3,σ3',H3,N3,(n1.trans n2).trans n3,JL.mono (r:=VI mt mb n σ3 h3) K1 (n2.trans n3)⟩
    | cont σ3 h3 =>
     rw[eb] at K1
     exact λ s3 σ3' H3 ι3 N3 n3=>⟨n,Za2 n,ι3,σ3,h3,σ3',H3,N3,(n1.trans n2).trans n3,JL.mono (r:=VI mt mb n σ3 h3) K1 (n2.trans n3)⟩
    | brk σ3 h3 =>
     rw[eb] at K1
     exact λ s3 σ3' H3 ι3 N3 n3=>K1 s3 σ3' H3 ι3 N3 (n2.trans n3)
    | ret v h3 =>
     rw[eb] at K1
     exact λ u s3 σ3i σ3' H3 ι3 N3 n3 r=>K1 u s3 σ3i σ3' H3 ι3 N3 (n2.trans n3) r
    | exc m σ3 h3=>rw[eb] at K1;exact Zf K1
    | stuck=>rw[eb] at K1;exact Zf K1
theorem o_ip (op:ZcD):OpI ce X (inplaceOp op) (ipI op):=by
 intro pj s σ H ι σi h x y v u Q E N rx ry K
 cases op with
 | Add =>
  obtain⟨xv,rx,qx⟩:=rx
  obtain⟨yv,ry,qy⟩:=ry
  cases x with
  | int i =>
   cases y with
   | int j =>
    cases (show xv=.int i from qx)
    cases (show yv=.int j from qy)
    obtain⟨t,rfl⟩:=rx
    obtain⟨t',rfl⟩:=ry
    exact iadd_int (K _ _ H ι ⟨N.inv.tok _,N.rel,N.st⟩ .refl ⟨.int (i+j),⟨_,rfl⟩,rfl⟩)
   | _=>exact Zf K
  | _=>cases y<;>exact Zf K
 | _=>cases x<;>cases y<;>exact Zf K
theorem J36 {i:Nat}{x:Str}{e:Expr}{me:E1}{op:ZcD}{pos':Pos}(hN:X.N.Nodup)(he:PEi ce X e me)(hi:X.N[i]?=Za x)(hx:Loc X.env.scope x)(hf:X.fn x=Zg∨X.env.scope.names.lookup x=Za .local) :
  PS1 ce X (.AugAssign (.Name x pos') op e pos) (sAug op i me):=by
 intro pj s σ H ι σi h Q E N K
 refine wpAny_AugAssign_Name ?_
 unfold sAug at K
 cases ev:Ja i σi h with
 | exc n h1=>exfalso;unfold Ja at ev;split at ev<;>cases ev
 | stuck=>rw[ev] at K;exact Zf K
 | ok v h1 =>
  rw[ev] at K
  obtain⟨e1,rfl⟩:σi[i]?=Za (Za v)/\h1=h:=by
   unfold Ja at ev
   split at ev
   ·rename_i q;cases ev;exact⟨q,rfl⟩
   ·cases ev
  obtain⟨w,hw,qw⟩:=N.st.at_ i v e1
  obtain⟨m,hn,hl⟩:=N.inv.loc
  have vis:Vis X.env.scope x:=by rcases hx with k|k;exact .inl k;exact .inr (.inl k)
  obtain⟨u,r,l⟩:=hl i x w hi hw vis
  have go:Zx (Z8 X.prog X.w) X.A (Zbe e X.env) (λ w s₂=>Zx (Z8 X.prog X.w) X.A (inplaceOp op u w) (λ r s₃=>Zx (Z8 X.prog X.w) X.A (storeName X.env x r) (λ _=>Q .next) E s₃) E s₂) E s:=by
   refine krun he N K λ y h2 uy s2 H2 ι2 N2 n2 r2 K2=>?_
   refine o_ip op pj s2 σ H2 ι2 σi h2 v y u uy _ E N2 ⟨w,r,RV.mono n2 _ _ qw⟩ r2 ?_
   cases ez:ipI op v y h2 with
   | exc n h3 =>
    rw[ez] at K2
    exact λ pl a s' H' ι' N' n' q=>K2 pl a s' σ H' ι' N' n' q s' (.inl rfl)
   | stuck=>rw[ez] at K2;exact K2
   | ok z h3 =>
    rw[ez] at K2
    intro uz s3 H3 ι3 N3 n3 r3
    obtain⟨zv,rz,qz⟩:=r3
    exact Jg3 N3.inv hN hi hx rz (λ s4 I4=>K2 s4 _ H3 ι3 ⟨I4,N3.rel,N3.st.set i qz⟩ n3) hf
  rcases l with⟨hk,hm⟩|⟨hk,c,hc,hcell⟩
  ·exact wpAny_loadName_local N.inv.ok.kind hk hn hm go
  ·rcases hk with hk|hk
   ·exact wpAny_loadName_cell N.inv.ok.kind hk hc hcell go
   ·rcases hx with k|k
    ·have:X.env.scope.names.lookup x=Za .free:=hk
     rw[k] at this;cases this
    ·have:X.env.scope.names.lookup x=Za .free:=hk
     rw[k] at this;cases this
theorem J1y {fl:Str}{o e:Expr}{mo me:E1}{op:ZcD}{tpos:Pos}(ho:PEi ce X o mo)(he:PEi ce X e me)(hf:Yh ce X.K fl):PS1 ce X (.AugAssign (.Attribute o fl tpos) op e pos) (XQ op fl mo me):=by
 intro pj s σ H ι σi h Q E N K
 refine wpAny_AugAssign_AttributeAny (krun ho N K λ ov h1 w s1 H1 ι1 N1 n1 r1 K1=>?_)
 cases ov with
 | ref i =>
  obtain⟨w,rw',a,e1,hi⟩:=r1
  subst e1
  cases rw'
  dsimp only at K1
  cases hh:h1[i]? with
  | none=>rw[hh] at K1;exact Zf K1
  | some ob =>
   cases ob with
   | ins c fs =>
    rw[hh] at K1
    dsimp only at K1
    cases hl:fs.lookup fl with
    | none=>rw[hl] at K1;exact Zf K1
    | some x =>
     rw[hl] at K1
     obtain⟨C,dx,vs,hC,hH,rp⟩:=N1.at hh hi
     obtain⟨cl,na⟩:=hf c C hC
     obtain⟨y,hy,q⟩:=(RPs.lookup rp).1 x hl
     refine Ji5 N1.inv hH cl na hy λ u' s2 I2 ru=>?_
     refine krun he (⟨I2,N1.rel,N1.st⟩:Now ce X pj ι1 σi h1 σ H1 s2) K1 λ z h3 uz s3 H3 ι3 N3 n3 r3 K3=>?_
     refine o_ip op pj s3 σ H3 ι3 σi h3 x z u' uz _ E N3 ⟨y,ru,RV.mono n3 _ _ q⟩ r3 ?_
     cases ez:ipI op x z h3 with
     | exc n h4 =>
      rw[ez] at K3
      exact λ pl a s' H' ι' N' n' q=>K3 pl a s' σ H' ι' N' n' q s' (.inl rfl)
     | stuck=>rw[ez] at K3;exact K3
     | ok v h4 =>
      rw[ez] at K3
      intro uv s4 H4 ι4 N4 n4 r4
      dsimp only[rS] at K3
      have hi4:ι4[i]?=Za a:=n4.at (n3.at hi)
      cases h4i:h4[i]? with
      | none=>rw[h4i] at K3;exact Zf K3
      | some ob =>
       cases ob with
       | ins c' gs =>
        rw[h4i] at K3
        dsimp only at K3
        split at K3
        ·rename_i hz
         obtain⟨C',dx',vs',hC',hH',rp'⟩:=N4.at h4i hi4
         obtain⟨cl',na'⟩:=hf c' C' hC'
         obtain⟨yv,ryv,qv⟩:=r4
         refine Jjb N4.inv hH' cl' na' (by rw[rp'.length];exact hz) ryv λ s5 I5=>?_
         have n5:Nxt ι4 H4 ι4 (upd H4 a (.ins C' dx' (putF fl yv vs'))):=⟨⟨[],by simp⟩,Ext.upd_mut hH' (by rw[hH'];exact Zaq)⟩
         obtain⟨R5,_⟩:=N4.rel.write (o:=.ins C' dx' (putF fl yv vs')) (io:=.ins c' (putI fl v gs)) hi4 hH' (by rw[hH'];exact Zaq) ⟨C',dx',_,hC',J7,RPs.put (RV.mono n5 _ _ qv) (RPs.mono n5 _ _ rp')⟩
         exact K3 s5 σ _ ι4 ⟨I5,R5,N4.st.mono n5⟩ (n4.trans n5)
        ·exact Zf K3
       | _=>rw[h4i] at K3;exact Zf K3
   | _=>rw[hh] at K1;exact Zf K1
 | _=>exact Zf K1
theorem Jz9:OpI ce X ZdI ixL:=by
 intro pj s σ H ι σi h x y v u Q E N rx ry K
 obtain⟨xv,rx,qx⟩:=rx
 obtain⟨yv,ry,qy⟩:=ry
 cases x with
 | ref i =>
  cases y with
  | int k =>
   obtain⟨a,rfl,ha⟩:=qx
   cases (show yv=.int k from qy)
   cases rx
   obtain⟨t,rfl⟩:=ry
   dsimp only[ixL] at K
   cases hi:h[i]? with
   | none=>rw[hi] at K;exact Zf K
   | some ob =>
    rw[hi] at K
    cases ob with
    | lst xs =>
     dsimp only at K
     cases hk:atI xs k with
     | none=>rw[hk] at K;exact Zf K
     | some z =>
      rw[hk] at K
      dsimp only at K
      split at K
      ·rename_i h0
       obtain⟨vs,e1,r1⟩:=N.at hi ha
       obtain⟨w,hw,qw⟩:=Jjh r1 hk
       obtain⟨its,r,pl,hz⟩:=N.inv.list (SqL.of e1)
       obtain⟨j,g1,g2,g3,g4,g5⟩:=Jjg hw
       obtain⟨w',ew,rw'⟩:=r.get g2
       have hn:=Xq
       have hj:k.toNat=j:=by
        rw[ZdW h0 g5] at g1
        exact Zaj g1
       exact wpAny_getItem_list pl.isList h0 (by omega) (by rw[hj];simpa using ew) (K _ _ H ι N .refl ⟨w,rw',qw⟩)
      ·exact Zf K
    | _=>exact Zf K
  | _=>exact Zf K
 | _=>cases y<;>exact Zf K
theorem J0z (p:OpI ce X f g)(N:Now ce X pj ι σi h σ H s)(rx:RU X.K ι H x v)(ry:RU X.K ι H y u) 
  {k:IV->IH->SRes}{Q:Flow->Zl->Prop}{E:QvT}{Q1:QvT}(K:JL ce X pj ι H (rS σi (g x y h) k) Q E)
  (step:∀z h1 w s1 H1 ι1,Now ce X pj ι1 σi h1 σ H1 s1->Nxt ι H ι1 H1->RU X.K ι1 H1 z w->JL ce X pj ι1 H1 (k z h1) Q E->Q1 w s1):Zx (Z8 X.prog X.w) X.A (f v u) Q1 E s:=by
 refine p pj s σ H ι σi h x y v u Q1 E N rx ry ?_
 cases e:g x y h with
 | ok z h' =>
  rw[e] at K
  exact λ w s' H' ι' N' n' r=>step z h' w s' H' ι' N' n' r (JL.mono (r:=k z h') K n')
 | exc n h' =>
  rw[e] at K
  exact λ pl a s' H' ι' N' n' q=>K pl a s' σ H' ι' N' n' q s' (.inl rfl)
 | stuck =>
  rw[e] at K
  exact K
theorem J17 {pj:PnT}{s:Zl}{σ:L2.St}{H:Hp}{ι:List Zm}{σi:ISt}{h:IH}{o i v:IV}{ou iu u:Ze}{Q:Flow->Zl->Prop}{E:QvT}(N:Now ce X pj ι σi h σ H s)(ro:RU X.K ι H o ou)(ri:RU X.K ι H i iu)(rv:RU X.K ι H v u)
  (K:JL ce X pj ι H (setI o i v σi h) Q E):Zx (Z8 X.prog X.w) X.A (setItem ou iu u) (λ _=>Q .next) E s:=by
 obtain⟨ox,ro,qo⟩:=ro
 obtain⟨ix,ri,qi⟩:=ri
 obtain⟨vx,rvx,qv⟩:=rv
 cases o with
 | ref i =>
  rename_i iv
  cases iv with
  | int k =>
   obtain⟨a,rfl,haa⟩:=qo
   cases (show ix=.int k from qi)
   dsimp only[setI] at K
   cases hh:h[i]? with
   | none=>rw[hh] at K;exact Zf K
   | some ob =>
    rw[hh] at K
    cases ob with
    | lst xs =>
     dsimp only at K
     cases hj:ixN xs.length k with
     | none=>rw[hj] at K;exact Zf K
     | some j =>
      rw[hj] at K
      obtain⟨ws,e1,r1'⟩:=N.at hh haa
      refine Zam (Ju3 (X:=X.wish E) pj s σ H (.ref a) (.int k) vx ou iu u (λ H'=>H'=upd H a (.lst (ws.set j vx))) (N.inv.wish E) ro ri rvx ⟨a,ws,k,j,rfl,rfl,e1,by rw[r1'.length];exact hj,rfl⟩) (λ _ s3 hq=>?_) λ _ _ z=>z
      obtain⟨H',I',rfl⟩:=hq
      have n:Nxt ι H ι (upd H a (.lst (ws.set j vx))):=⟨⟨[],by simp⟩,Ext.upd_mut e1 (by rw[e1];exact Zaq)⟩
      obtain⟨R3,_⟩:=N.rel.write (o:=.lst (ws.set j vx)) (io:=.lst (xs.set j v)) haa e1 (by rw[e1];exact Zaq) ⟨_,J7,(RVs.mono n _ _ r1').set (RV.mono n _ _ qv) j⟩
      exact K s3 σ _ ι ⟨I'.unwish,R3,N.st.mono n⟩ n
    | _=>exact Zf K
  | _=>exact Zf K
 | _=>cases i<;>exact Zf K
theorem J1z {o i e:Expr}{mo mi me:E1}{op:ZcD}{tpos:Pos}(ho:PEi ce X o mo)(hi:PEi ce X i mi)(he:PEi ce X e me)(hs:Xs i=Zg):PS1 ce X (.AugAssign (.Subscript o i tpos) op e pos) (VY op mo mi me):=by
 intro pj s σ H ι σi h Q E N K
 refine wpAny_AugAssign_SubscriptAny (krun ho N K λ ov h1 ou s1 H1 ι1 N1 n1 r1 K1=>krun hi N1 K1 λ kv h2 ku s2 H2 ι2 N2 n2 r2 K2=>?_) (λ _ _ _=>by cases i<;>first|rfl|cases hs)
 refine J0z Jz9 N2 (r1.mono n2) r2 K2 λ x h3 xu s3 H3 ι3 N3 n3 r3 K3=>?_
 refine krun he N3 K3 λ y h4 yu s4 H4 ι4 N4 n4 r4 K4=>?_
 refine J0z (o_ip op) N4 (r3.mono n4) r4 K4 λ z h5 zu s5 H5 ι5 N5 n5 r5 K5=>?_
 exact J17 N5 ((((r1.mono n2).mono n3).mono n4).mono n5) (((r2.mono n3).mono n4).mono n5) r5 K5
end
section
variable {ce:CeT}{k:Nat}{P:Pg}{n:Nat}{S:Sc}{X:Cx}
theorem XN (hf:∀s,PS1 ce X s (f s)):∀(l:List Zdi),PS2 ce X l (sAll (l.map f))
 | []=>J1v
 | [a]=>J1w (hf a)
 | a::b::r=>Jyy (hf a) (XN hf (b::r))
end
section
variable {ce:CeT}{k:Nat}{P:Pg}{S:Sc}{X:Cx}{xi:Xi}{xf:Str->Str->Bool}{fr:Str->Bool}
end
section
variable {ce:CeT}{k:Nat}{P:Pg}{n:Nat}{S:Sc}{X:Cx}
theorem Jxe {tg:Expr}{env:Env}(h:J1 tg=Zg):(ZaE [tg] env).map (·.2)=[ZdJ tg env]:=by
 cases tg<;>first|rfl|cases h
theorem Jvb (G:Good ce k P S X)(i:Nat){p q:Pos}(h:isLC e=Zg)(h1:X.N[i]?=Za x)(h2:L2.Loc X.env.scope x)(h3:X.fn x=Zg∨X.env.scope.names.lookup x=Za .local) :
  PS1 ce X (.Assign [.Name x q] e p) (Ji i (ev P n S e)):=by
 cases e with
 | ListComp elt gens sc cp =>
  cases hb:(X.env.blockKind==.function&&X.env.kindOf x==Za .local&&q.line==cp.line&&!(sc.names.any λ (n,k)=>n==x&&(k==.local||k==.cell))) with
  | false =>
   refine J14 G.nodup ((Jkj ce k P n).e S X _ G) h1 h2 ?_ h3
   show(pure (X.env.blockKind==.function&&X.env.kindOf x==Za .local&&q.line==cp.line&&!(sc.names.any λ (n,k)=>n==x&&(k==.local||k==.cell))):Sem Bool)=pure Zj
   rw[hb]
  | true =>
   have hsw:Zdg (.ListComp elt gens sc cp) (Za (.Name x q)) p.line X.env=pure Zg:=by
    show(pure (X.env.blockKind==.function&&X.env.kindOf x==Za .local&&q.line==cp.line&&!(sc.names.any λ (n,k)=>n==x&&(k==.local||k==.cell))):Sem Bool)=pure Zg
    rw[hb]
   have dead:∀m:E1,(∀σ h,m σ h=.stuck)->PS1 ce X (.Assign [.Name x q] (.ListComp elt gens sc cp) p) (Ji i m):=λ m hm=>by
    intro pj s σ H ι σi h Q E N K
    unfold Ji at K
    rw[hm] at K
    exact Zf K
   cases n with
   | zero=>exact dead _ λ _ _=>rfl
   | succ n =>
    have ih:=Jkj ce k P n
    match gens,hsw with
    | [⟨tg,iter,ifs,as⟩],hsw =>
     show PS1 ce X _ (Ji i (if as=0/\XD iter=Zg/\QA S.N (VB sc) (Q3 sc) (jsOf S sc) S.fake sc=Zg then
      Jra ifs (evT P n (S.comp sc)) (λ mt=>J0 (evI P n S tg iter) (VB sc).length (jsOf S sc) (tgt P n (S.comp sc) tg) mt (ev P n (S.comp sc) elt)) else stE))
     split
     ·rename_i hs
      obtain⟨rfl,hi,ok⟩:=hs
      have Gc:=G.comp ok
      have ok':=ok
      rw[<- Jlg G] at ok'
      match ifs,hsw with
      | [],hsw=>exact Jws G.calm (ih.i S X tg iter G) (λ C s H fp=>ih.g _ _ tg (Gc C s H fp)) (λ C s H fp=>Jw0) (λ C s H fp=>ih.e _ _ elt (Gc C s H fp)) ok' G.n rfl (Yr hi) G.nodup h1 h2 h3 hsw
      | [c],hsw=>exact Jws G.calm (ih.i S X tg iter G) (λ C s H fp=>ih.g _ _ tg (Gc C s H fp)) (λ C s H fp=>Jw1 (ih.t _ _ c (Gc C s H fp))) (λ C s H fp=>ih.e _ _ elt (Gc C s H fp)) ok' G.n rfl (Yr hi) G.nodup h1 h2 h3 hsw
      | _::_::_,_=>exact dead _ λ _ _=>rfl
     ·exact dead _ λ _ _=>rfl
    | [],_=>exact dead _ λ _ _=>rfl
    | ⟨_,_,_,_⟩::_::_,_=>exact dead _ λ _ _=>rfl
 | _=>cases h
theorem Jov (ce:CeT)(k:Nat)(P:Pg):∀(n:Nat)(S:Sc)(X:Cx)(st:Zdi),Good ce k P S X->PS1 ce X st (ex P n S st)
 | 0,_,_,_,_=>Qa
 | n+1,S,X,st,G=>by
  have ih:=λ st=>Jov ce k P n S X st G
  have E:=Jkj ce k P n
  have ihe:=λ e=>E.e S X e G
  cases st with
  | Pass p=>exact J12
  | Break p=>exact Jy2
  | Continue p=>exact J10
  | Expr e p =>
   show PS1 ce X _ (if VE e then JD (ev P n S e) else stS)
   split
   ·rename_i h
    exact J11 (ihe e) (Jdi h)
   ·exact Qa
  | Return v p =>
   cases v with
   | none=>exact J13
   | some e=>exact J39 (ihe e)
  | If c a b p=>exact s_if (E.t S X c G) (XN ih a) (XN ih b)
  | Raise exc cause p=>exact Qa
  | Try body hs o f p=>exact Qa
  | While c a o p =>
   cases o with
   | nil=>exact Jy3 (E.t S X c G) (XN ih a)
   | cons _ _=>exact Qa
  | For tg it a o p =>
   cases o with
   | nil =>
    show PS1 ce X _ (if XD it&&S.own then sFor (evI P n S tg it) (tgt P n S tg) (sAll (a.map (ex P n S))) else stS)
    split
    ·rename_i h
     rw[Zq] at h
     obtain⟨hk,hf⟩:=G.top h.2
     exact J38 G.calm hk hf (E.i S X tg it G) (E.g S X tg G) (XN ih a) (Yr h.1)
    ·exact Qa
   | cons _ _=>exact Qa
  | AugAssign tg op e p =>
   cases tg with
   | Name x q =>
    show PS1 ce X _ (match S.sto x with|some i=>sAug op i (ev P n S e)|none=>stS)
    cases hv:S.sto x with
    | none=>exact Qa
    | some i =>
     obtain⟨h1,h2,h3⟩:=G.sto hv
     exact J36 G.nodup (ihe e) h1 h2 h3
   | Attribute o f q =>
    show PS1 ce X _ (if P.fld f then XQ op f (ev P n S o) (ev P n S e) else stS)
    split
    ·rename_i h
     exact J1y (ihe o) (ihe e) (G.pg.fld f h)
    ·exact Qa
   | Subscript o i q =>
    show PS1 ce X _ (if Xs i then VY op (ev P n S o) (ev P n S i) (ev P n S e) else stS)
    split
    ·rename_i h
     exact J1z (ihe o) (ihe i) (ihe e) h
    ·exact Qa
   | _=>exact Qa
  | Assign tgs e p =>
   match tgs with
   | []=>exact Qa
   | a::_::_=>cases a<;>exact Qa
   | [tg] =>
    have gen:PS1 ce X (.Assign [tg] e p) (if VE e&&((Jue tg&&Jyn e)||Jud tg) then sAsg (ev P n S e) (tgt P n S tg) else stS):=by
     split
     ·rename_i h
      simp only[Zq,Za1] at h
      have hst:J1 tg=Zg:=by
       rcases h.2 with q|q
       ·cases tg<;>first|rfl|(simp[Jue] at q)
       ·cases tg<;>first|rfl|(simp[Jud] at q)
      refine J35 (ihe e) (E.g S X tg G) (Jdi h.1) ?_ (Jxe hst)
      rcases h.2 with q|q
      ·cases tg with
       | Tuple es j pp =>
        have q2:=q.2
        cases e<;>first|rfl|(simp[Jyn] at q2)
       | _=>simp[Jue] at q
      ·cases tg with
       | Subscript=>cases e<;>rfl
       | _=>simp[Jud] at q
     ·exact Qa
    cases tg with
    | Name x q =>
     show PS1 ce X _ (if VE e||isLC e then(match S.sto x with|some i=>Ji i (ev P n S e)|none=>stS) else stS)
     split
     ·rename_i h
      cases hv:S.sto x with
      | none=>exact Qa
      | some i =>
       obtain⟨h1,h2,h3⟩:=G.sto hv
       rcases Za1 _ _▸h with h|h
       ·exact J14 G.nodup (ihe e) h1 h2 (Jdi h) h3
       ·exact Jvb G i h h1 h2 h3
     ·exact Qa
    | Attribute o f q =>
     show PS1 ce X _ (if VE e||isLC e then Jyz P f (ev P n S o) (ev P n S e) else stS)
     split
     ·rename_i h
      have hw:Zdg e (Za (.Attribute o f q)) p.line X.env=pure Zj:=by
       rcases Za1 _ _▸h with h|h
       ·exact Jdi h
       ·cases e<;>first|rfl|cases h
      unfold Jyz
      split
      ·rename_i hf
       exact J37 (ihe o) (ihe e) (G.pg.fld f hf) hw
      ·exact Qa
     ·exact Qa
    | _=>exact gen
  | _=>exact Qa
end
structure D4 where
 st:Zdi
 qual:Str
 ps:List Str
 N:List Str
 dvs:List IV
def D4.sc (d:D4):Sc:=⟨d.N,(JV d.st).names,Zg,d.qual⟩
structure Tab where
 fns:List (Str×D4)
 clss:List (Str×D4)
 meths:List (Str×List (Str×D4))
 cons:List (Str×IV)
 isas:List (Str×List Str)
 flds:List Str
 frees:List Str
 tabs:List Str:=[]
 razs:List Str:=[]
 xis:List (Str×List (Str×Bool)):=[]
 bass:List Str:=[]
 wrs:List (Str×D4):=[]
 nes:List Str:=[]
 xms:List (Str×D4):=[]
 xfs:List (Str×List Str):=[]
 xbs:List Str:=[]
def memS (x:Str):List Str->Bool
 | []=>Zj
 | y::r=>y==x||memS x r
def Qx {α:Type}(x:Str):List (Str×α)->Option α
 | []=>Zc
 | (y,a)::r=>if y==x then Za a else Qx x r
def xfOf (T:Tab)(f c:Str):Bool:=match Qx f T.xfs with|some l=>memS c l|none=>Zj
def mkPg (T:Tab)(r:D4->List IV->IH->Res IV):Pg where
 fn:=λ x=>(Qx x T.fns).map λ d=>⟨d.ps.length,d.dvs,r d⟩
 cls:=λ x=>(Qx x T.clss).map λ d=>⟨d.ps.length,d.dvs,r d⟩
 meth:=λ c m=>((Qx c T.meths).bind (Qx m)).map λ d=>⟨d.ps.length,d.dvs,r d⟩
 con:=λ x=>Qx x T.cons
 isa:=λ x=>(Qx x T.isas).map λ l c=>memS c l
 fld:=λ x=>memS x T.flds
 free:=λ x=>memS x T.frees
 tabs:=λ q=>ixOf q T.tabs
 rz:=λ x=>memS x T.razs
 xi:=λ D=>(Qx D T.xis).map λ l c=>Qx c l
 bas:=λ x=>memS x T.bass
 wr:=λ _=>Zc
 ne:=λ x=>memS x T.nes
 xo:=λ x=>(Qx x T.xms).map λ d=>⟨d.ps.length,d.dvs,r d⟩
 xf:=xfOf T
 xb:=λ x=>memS x T.xbs
def run (T:Tab):Nat->D4->List IV->IH->Res IV
 | 0,_=>λ _ _=>.stuck
 | k+1,d=>fnI d.N.length (sAll ((Qw d.st).map (ex (mkPg T (run T k)) 40 d.sc)))
theorem QC:∀{l:List (Str×α)},Qx x l=Za a->(x,a)∈l
 | [],h=>by cases h
 | (y,b)::r,h=>by
  unfold Qx at h
  split at h
  ·rename_i e
   cases h
   rw[beq_iff_eq.mp e]
   exact Z7
  ·exact Zp _ (QC h)
theorem Yw:∀{l:List Str},memS x l=Zg->x∈l
 | [],h=>by cases h
 | y::r,h=>by
  unfold memS at h
  rcases Za1 _ _▸h with e|e
  ·rw[beq_iff_eq.mp e]
   exact Z7
  ·exact Zp _ (Yw e)
structure DefOk (K:W.Frag)(x:Str)(d:D4)(fa:Zm)(fd:ZaD):Prop where
 fun_:∃dV,FunD K x d.qual d.st fa fd dV
 sc:FnScope d.N d.ps (JV d.st)
 dv:∀j,j<=d.dvs.length->∃ds,Qo K fd d.ps ds/\ds.length=d.dvs.length-j/\∃vs,Vals vs ds/\∀ι H,RVs K ι H (d.dvs.drop j) vs
structure TabOk (ce:CeT)(T:Tab)(K:W.Frag)(mg:Str->Option Ze):Prop where
 fn:∀x d,(x,d)∈T.fns->∃fa fd,mg x=Za (.ref fa)/\DefOk K x d fa fd
 cls:∀x d,(x,d)∈T.clss->∃C fa fd,mg x=Za (.ref C)/\ce x=Za C/\Mk K C fa/\DefOk K "__init__" d fa fd
 meth:∀c l m d,(c,l)∈T.meths->(m,d)∈l->∃C fa fd,ce c=Za C/\Cls K C/\Meth K C m fa/\DefOk K m d fa fd
 con:∀x v,(x,v)∈T.cons->∃u y,mg x=Za u/\RelV y u/\∀ι H,RV K ι H v y
 isa:∀D l,(D,l)∈T.isas->∃c,mg D=Za c/\IsOk ce K c λ t=>match t with|.ins c=>Za (memS c l)|.exc _=>Zc|_=>Za Zj
 fld:∀f,f∈T.flds->Yh ce K f
 free:∀x,x∈T.frees->mg x=Zc
 bas:∀x,x∈T.bass->∃C,mg x=Za (.ref C)/\BasK K C
 ne:∀c,c∈T.nes->∃C,ce c=Za C/\neIn K C=Zg/\ClsI K C/\W.kitOne K (.ref C) (.type "list")=Za Zj
section
variable {ce:CeT}{T:Tab}{prog:ZA}{w:ZW}{K:W.Frag}{mg:Str->Option Ze}{base:Zas}
theorem Jpt {k:Nat}{fa:Zm}{fd:ZaD}{ps:List Str}:FnOk prog w K mg base (CXI prog w) k fa fd ps (spI ce K ps λ _ _=>.stuck) :=
 ⟨λ _ _ _ _ h=>h.1,λ _ _ _ _ _ _ _ _ _ _ _ _ _ h=>by obtain⟨_,_,_,_,_,_,z⟩:=h;exact z.elim⟩
theorem J3z (O:TabOk ce T K mg)(B:T.tabs≠[]->Q9 mg base)(k:Nat)(hD:∀x d fa fd,DefOk K x d fa fd->FnD ce prog w K mg base (4*k) ⟨d.ps.length,d.dvs,run T k d⟩ fa fd d.ps):PgOk ce (4*k) (mkPg T (run T k)) prog w K mg base:=by
 refine⟨λ x f h=>?_,λ x f h=>?_,λ c m f h=>?_,λ x v h=>?_,λ D g h=>?_,λ f h=>?_,λ x h=>?_,λ q j h=>B λ e=>?_,λ x h=>O.bas x (Yw h),λ c h=>O.ne c (Yw h)⟩
 ·obtain⟨d,hd,rfl⟩:=ZF.mp h
  obtain⟨fa,fd,hm,ok⟩:=O.fn x d (QC hd)
  obtain⟨dV,F⟩:=ok.fun_
  exact⟨fa,fd,d.ps,hm,F.kp,hD x d fa fd ok⟩
 ·obtain⟨d,hd,rfl⟩:=ZF.mp h
  obtain⟨C,fa,fd,hm,hC,M,ok⟩:=O.cls x d (QC hd)
  exact⟨C,fa,fd,d.ps,hm,hC,M,hD _ d fa fd ok⟩
 ·obtain⟨d,hd,rfl⟩:=ZF.mp h
  obtain⟨l,hl,hd⟩:=Option.bind_eq_some_iff.mp hd
  obtain⟨C,fa,fd,hC,cl,me,ok⟩:=O.meth c l m d (QC hl) (QC hd)
  exact⟨C,fa,fd,d.ps,hC,cl,me,hD m d fa fd ok⟩
 ·exact O.con x v (QC h)
 ·obtain⟨l,hl,rfl⟩:=ZF.mp h
  exact O.isa D l (QC hl)
 ·exact O.fld f (Yw h)
 ·exact O.free x (Yw h)
 ·have h':ixOf q T.tabs=Za j:=h
  rw[e] at h'
  cases h'
theorem Jv8 (O:TabOk ce T K mg)(B:T.tabs≠[]->Q9 mg base):∀k x d fa fd,DefOk K x d fa fd->FnD ce prog w K mg base (4*k) ⟨d.ps.length,d.dvs,run T k d⟩ fa fd d.ps
 | 0,x,d,fa,fd,ok=>⟨rfl,Jpt,ok.dv⟩
 | k+1,x,d,fa,fd,ok=>by
  refine⟨rfl,?_,ok.dv⟩
  obtain⟨dV,F⟩:=ok.fun_
  show FnOk prog w K mg base (CXI prog w) (4*k+3+1) fa fd d.ps (spI ce K d.ps (run T (k+1) d))
  refine F.fn (m:=sAll ((Qw d.st).map (ex (mkPg T (run T k)) 40 d.sc))) ok.sc λ cdv A outer s H E hcd hr=>?_
  refine XN (λ st=>Jov ce (4*k) (mkPg T (run T k)) 40 d.sc _ st ?_) _
  exact⟨rfl,rfl,ok.sc.nd,ok.sc.kind,rfl,hr.mono (by omega),λ _ _=>rfl,J3z O B k (Jv8 O B k),λ _=>⟨hcd,rfl⟩,λ _=>hr,λ _=>⟨rfl,rfl⟩⟩
end
inductive All {α:Type}(p:α->Prop):List α->Prop
 | nil:All p []
 | cons {a:α}{l:List α}:p a->All p l->All p (a::l)
theorem All.mem:∀{l:List α}{a:α},All p l->a∈l->p a
 | _,_,.nil,h=>by cases h
 | _,_,.cons h r,m=>by
  rcases Z6.mp m with rfl|m
  ·exact h
  ·exact r.mem m
def Jv4 (l:List Str):Ty->Option Bool:=λ t=>match t with|.ins c=>Za (memS c l)|.exc _=>Zc|_=>Za Zj
section
variable {T:Tab}{K:W.Frag}{mg:Str->Option Ze}
def ceOf (ces:List (Str×Zm)):CeT:=λ c=>Qx c ces
theorem J2c (ces:List (Str×Zm))(fn:All (λ p:Str×D4=>∃fa fd,mg p.1=Za (.ref fa)/\DefOk K p.1 p.2 fa fd) T.fns) 
  (cls:All (λ p:Str×D4=>∃C fa fd,mg p.1=Za (.ref C)/\ceOf ces p.1=Za C/\Mk K C fa/\DefOk K "__init__" p.2 fa fd) T.clss)
  (meth:All (λ q:Str×List (Str×D4)=>∃C,ceOf ces q.1=Za C/\All (λ p:Str×D4=>∃fa fd,Meth K C p.1 fa/\DefOk K p.1 p.2 fa fd) q.2) T.meths)
  (con:All (λ p:Str×IV=>∃u y,mg p.1=Za u/\RelV y u/\∀ι H,RV K ι H p.2 y) T.cons)
  (cl:All (λ p:Str×Zm=>ClsI K p.2/\All (λ f=>Qt K p.2 f) T.flds) ces)
  (isa:All (λ q:Str×List Str=>∃D,mg q.1=Za (.ref D)/\W.kitOne K (.type "NoneType") (.ref D)=Za Zj/\W.kitOne K (.type "bool") (.ref D)=Za Zj/\W.kitOne K (.type "int") (.ref D)=Za Zj/\W.kitOne K (.type "str") (.ref D)=Za Zj /\
   W.kitOne K (.type "list") (.ref D)=Za Zj/\W.kitOne K (.type "tuple") (.ref D)=Za Zj/\W.kitOne K (.type "dict") (.ref D)=Za Zj/\All (λ p:Str×Zm=>W.kitOne K (.ref p.2) (.ref D)=Za (memS p.1 q.2)) ces) T.isas)
  (free:All (λ x=>mg x=Zc) T.frees)
  (bas:All (λ x=>∃C,mg x=Za (.ref C)/\BasK K C) T.bass:=by exact .nil)
  (nes:All (λ c=>∃C,ceOf ces c=Za C/\neIn K C=Zg/\W.kitOne K (.ref C) (.type "list")=Za Zj) T.nes:=by exact .nil):TabOk (ceOf ces) T K mg:=by
 refine⟨λ x d h=>fn.mem h,λ x d h=>cls.mem h,λ c l m d hc hm=>?_,λ x v h=>con.mem h,λ D l h=>?_,λ f hf=>?_,λ x h=>free.mem h,λ x h=>bas.mem h,λ c h=>let ⟨C,p,q,r⟩:=nes.mem h;⟨C,p,q,(cl.mem (QC p)).1,r⟩⟩
 ·obtain⟨C,hC,hl⟩:=meth.mem hc
  obtain⟨fa,fd,me,ok⟩:=hl.mem hm
  exact⟨C,fa,fd,hC,(cl.mem (QC hC)).1.cl,me,ok⟩
 ·obtain⟨C,hC,h1,h2,h3,h4,h5,h6,h7,h8⟩:=isa.mem h
  refine⟨_,hC,⟨λ b e=>?_,λ b e=>?_,λ b e=>?_,λ b e=>?_,λ b e=>?_,λ b e=>?_,λ b e=>?_,λ k C' b e hk=>?_,(λ k C' b e=>by cases e)⟩⟩
  ·cases e;exact h1
  ·cases e;exact h2
  ·cases e;exact h3
  ·cases e;exact h4
  ·cases e;exact h5
  ·cases e;exact h6
  ·cases e;exact h7
  ·cases e
   exact⟨(cl.mem (QC hk)).1,h8.mem (QC hk)⟩
 ·intro c C e
  obtain⟨h1,h2⟩:=cl.mem (QC e)
  exact⟨h1.cl,h2.mem hf⟩
theorem len1 {α:Type}{P:List α->Prop}(F0:∀a,P [a]):∀us:List α,us.length=1->P us
 | [a],_=>F0 a
theorem len2 {α:Type}{P:List α->Prop}(F0:∀a b,P [a,b]):∀us:List α,us.length=2->P us
 | [a,b],_=>F0 a b
theorem len3 {α:Type}{P:List α->Prop}(F0:∀a b c,P [a,b,c]):∀us:List α,us.length=3->P us
 | [a,b,c],_=>F0 a b c
theorem len4 {α:Type}{P:List α->Prop}(F0:∀a b c d,P [a,b,c,d]):∀us:List α,us.length=4->P us
 | [a,b,c,d],_=>F0 a b c d
theorem len5 {α:Type}{P:List α->Prop}(F0:∀a b c d e,P [a,b,c,d,e]):∀us:List α,us.length=5->P us
 | [a,b,c,d,e],_=>F0 a b c d e
theorem len6 {α:Type}{P:List α->Prop}(F0:∀a b c d e f,P [a,b,c,d,e,f]):∀us:List α,us.length=6->P us
 | [a,b,c,d,e,f],_=>F0 a b c d e f
theorem len7 {α:Type}{P:List α->Prop}(F0:∀a b c d e f g,P [a,b,c,d,e,f,g]):∀us:List α,us.length=7->P us
 | [a,b,c,d,e,f,g],_=>F0 a b c d e f g
theorem J4h:∀j:Nat,j<=3->j=0∨j=1∨j=2∨j=3:=by omega
theorem Jv7 {x:Str}{d:D4}{fa:Zm}{oc kV doc pm cdv ct:Ze}{od an:Option Zm}{osl:Array (Option Ze)}(lk:K.lookup fa=Za ⟨oc,od,.func (W.fnOf x d.qual (QU d.st) (Qw d.st) (JV d.st) .none kV doc pm an cdv ct),osl⟩)
  (hc:W.codeIn K cdv d.qual=Zg)(hk:W.keepIn K (.ref fa)=Zg)(sc:FnScope d.N d.ps (JV d.st))(hd:d.dvs=[])
  (hb:∀us:List Ze,us.length=d.ps.length->ZdU (W.fnOf x d.qual (QU d.st) (Qw d.st) (JV d.st) .none kV doc pm an cdv ct) ⟨us,[]⟩=pure (d.ps.zip us)) :
  DefOk K x d fa (W.fnOf x d.qual (QU d.st) (Qw d.st) (JV d.st) .none kV doc pm an cdv ct) :=
 ⟨⟨_,⟨oc,od,kV,doc,pm,an,cdv,ct,osl,rfl,lk,hc⟩,hk⟩,sc,λ j hj=>⟨[],.all hb,by rw[hd];simp,[],.nil,by rw[hd];intro _ _;cases j<;>exact rfl⟩⟩
def scOk (N P:List Str)(sc:Zbi):Bool :=
 sc.kind==.function&&!sc.isCoroutine&&!sc.isGenerator&&decide N.Nodup&&decide (N.take P.length=P)&&P.all (λ x=>sc.names.lookup x==Za .local||sc.names.lookup x==Za .cell)&&sc.names.all (λ y=>!(y.2==.free))
theorem scOk.of (h:scOk N P sc=Zg):FnScope N P sc:=by
 simp only[scOk,Zq,beq_iff_eq,ZaH,decide_eq_true_eq,Zbf,Za1,beq_eq_false_iff_ne] at h
 obtain⟨⟨⟨⟨⟨⟨h1,h2⟩,h3⟩,h4⟩,h5⟩,h6⟩,h7⟩:=h
 exact⟨h1,h2,h3,h4,h5,h6,h7⟩
def FnB (x q:Str)(d:D4):Prop:=FnScope d.N d.ps (JV d.st)/\d.dvs=[]/\d.qual=q/\∀(kV doc pm:Ze)(an:Option Zm)(cdv ct:Ze)(us:List Ze),us.length=d.ps.length->ZdU (W.fnOf x d.qual (QU d.st) (Qw d.st) (JV d.st) .none kV doc pm an cdv ct) ⟨us,[]⟩=pure (d.ps.zip us)
section
variable {x q:Str}{d:D4}{h:Zas}{a C:Zm}{oc kV dc pm cd ct:Ze}{od an:Option Zm}{sl:Array (Option Ze)}
theorem Jsh (B:FnB x q d)(hl:K.lookup a=Za ⟨oc,od,.func (W.fnOf x q (QU d.st) (Qw d.st) (JV d.st) .none kV dc pm an cd ct),sl⟩)(hc:W.codeIn K cd q=Zg)(hk:W.keepIn K (.ref a)=Zg):∃fd,DefOk K x d a fd:=by
 obtain⟨s,v,rfl,b⟩:=B
 exact⟨_,Jv7 hl hc hk s v (b _ _ _ _ _ _)⟩
theorem J4 (X:K.In h)(G:h.Ns Zz mg)(B:FnB x q d)(ha:W.nsIn K Zz x=Za (Za (.ref a)):=by k_is)(hl:K.lookup a=Za ⟨oc,od,.func (W.fnOf x q (QU d.st) (Qw d.st) (JV d.st) .none kV dc pm an cd ct),sl⟩:=by k_is)(hc:W.codeIn K cd q=Zg:=by k_is)(hk:W.keepIn K (.ref a)=Zg:=by k_is):∃fa fd,mg x=Za (.ref fa)/\DefOk K x d fa fd :=
 let ⟨fd,D⟩:=Jsh B hl hc hk
 ⟨a,fd,W.mg_of X G ha,D⟩
theorem JH (B:FnB x q d)(ha:W.findIn K (.ref C) x=Za (Za (.ref a)):=by k_is)(hi:W.isFn K (.ref a)=Zg:=by k_is)(hl:K.lookup a=Za ⟨oc,od,.func (W.fnOf x q (QU d.st) (Qw d.st) (JV d.st) .none kV dc pm an cd ct),sl⟩:=by k_is)(hc:W.codeIn K cd q=Zg:=by k_is)(hk:W.keepIn K (.ref a)=Zg:=by k_is):∃fa fd,Meth K C x fa/\DefOk K x d fa fd :=
 let ⟨fd,D⟩:=Jsh B hl hc hk
 ⟨a,fd,⟨ha,hi,hk⟩,D⟩
theorem XC (B:FnB "__init__" q d)(ha:W.findIn K (.ref C) "__init__"=Za (Za (.ref a)):=by k_is)(hi:W.isFn K (.ref a)=Zg:=by k_is)(hl:K.lookup a=Za ⟨oc,od,.func (W.fnOf "__init__" q (QU d.st) (Qw d.st) (JV d.st) .none kV dc pm an cd ct),sl⟩:=by k_is)(hc:W.codeIn K cd q=Zg:=by k_is)(hk:W.keepIn K (.ref a)=Zg:=by k_is)(hm:W.makesIn K C=Zg:=by k_is)(hq:W.keepIn K (.ref C)=Zg:=by k_is):∃fa fd,Mk K C fa/\DefOk K "__init__" d fa fd :=
 let ⟨fd,D⟩:=Jsh B hl hc hk
 ⟨a,fd,⟨hm,ha,hi,hq⟩,D⟩
end
theorem Jye {prog:ZA}{w:ZW}(O:TabOk ce T K mg)(B:T.tabs≠[]->Q9 mg base)(k:Nat){d:D4}(hp:d.ps=[x])(ok:DefOk K "law" d fa fd) :
  FnOk prog w K mg base (CXI prog w) (4*k) fa fd [x] (XT K x (run T k d)):=by
 have:=(Jv8 (prog:=prog) (w:=w) (base:=base) O B k "law" d fa fd ok).ok
 rw[hp] at this
 exact Jt0 this
end
def WR {α:Type}(r:Res α)(Q:α->IH->Prop):Prop:=match r with
 | .ok a h=>Q a h
 | _=>False
def WS (r:SRes)(N:ISt->IH->Prop)(R:IV->IH->Prop):Prop:=match r with
 | .next σ h=>N σ h
 | .ret v h=>R v h
 | _=>False
section
variable {α β:Type}{σ:ISt}{h:IH}{Q:α->IH->Prop}{N:ISt->IH->Prop}{R:IV->IH->Prop}
theorem WR.mono (x:WR r P)(f:∀a h,P a h->Q a h):WR r Q:=by
 cases r with
 | ok a h=>exact f a h x
 | exc n h=>exact x
 | stuck=>exact x
theorem Je (e:r=.ok a h)(q:Q a h):WR r Q:=by rw[e];exact q
theorem WR.eq (x:WR r Q):∃a h,r=.ok a h/\Q a h:=by
 cases r with
 | ok a h=>exact⟨a,h,rfl,x⟩
 | exc n h=>exact x.elim
 | stuck=>exact x.elim
theorem WS.mono (x:WS r N R)(f:∀σ h,N σ h->N' σ h)(g:∀v h,R v h->R' v h):WS r N' R':=by
 cases r with
 | next σ h=>exact f σ h x
 | ret v h=>exact g v h x
 | _=>exact x
theorem Vy (a:α):WR (.ok a h) Q=Q a h:=rfl
theorem Jv2:WR (.stuck:Res α) Q=False:=rfl
theorem Jv (r:Res α)(f:α->IH->Res β)(Q:β->IH->Prop):WR (r.bind f) Q=WR r λ a h=>WR (f a h) Q:=by cases r<;>rfl
theorem Jv0 (r:Res α):WR r.nx Q=WR r Q:=by cases r<;>rfl
theorem Va (c:Prop)[Decidable c](x y:Res α):WR (if c then x else y) Q=((c->WR x Q)/\(¬c->WR y Q)):=by
 by_cases hc:c<;>simp[hc]
theorem Q2 (r:Res α)(k:α->IH->SRes):WS (rS σ r k) N R=WR r λ a h=>WS (k a h) N R:=by cases r<;>rfl
theorem YJ (r:SRes)(Q:IV->IH->Prop):WR r.fin Q=WS r (λ _ h=>Q .non h) Q:=by
 cases r with
 | exc n σ h=>show WR (match h[n]? with|some (.exc _ _)=>Res.exc n h|_=>Res.stuck) Q=False;split<;>rfl
 | _=>rfl
theorem YX (σ:ISt):WS (.next σ h) N R=N σ h:=rfl
theorem Jpl (v:IV):WS (.ret v h) N R=R v h:=rfl
theorem YY (a b:S1):WS (Jg a b σ h) N R=WS (a σ h) (λ σ1 h1=>WS (b σ1 h1) N R) R:=by
 unfold Jg;cases a σ h<;>rfl
theorem Xz:WS (Jp σ h) N R=N σ h:=rfl
theorem Jkw:WS (Jy0 σ h) N R=N σ h:=rfl
theorem YZ (i:Nat)(e:E1):WS (Ji i e σ h) N R=WR (e σ h) λ v h1=>N (σ.set i (Za v)) h1:=by unfold Ji;rw[Q2];rfl
theorem YW (t:T1)(a b:S1):WS (sIf t a b σ h) N R=WR (t σ h) λ c h1=>(c=Zg->WS (a σ h1) N R)/\(c=Zj->WS (b σ h1) N R):=by
 unfold sIf;rw[Q2];congr 1;funext c h1;cases c<;>simp
theorem Nb (e:E1):WS (Jj e σ h) N R=WR (e σ h) R:=by unfold Jj;rw[Q2];rfl
theorem Jkx:WS (Jy1 σ h) N R=R .non h:=rfl
theorem YV (e:E1):WS (JD e σ h) N R=WR (e σ h) λ _ h1=>N σ h1:=by unfold JD;rw[Q2];rfl
theorem Vb (e:E1)(g:G1):WS (sAsg e g σ h) N R=WR (e σ h) λ v h1=>WS (g v σ h1) N R:=by unfold sAsg;rw[Q2]
theorem Jpk (i:Nat)(v:IV):WS (gNm i v σ h) N R=N (σ.set i (Za v)) h:=rfl
theorem J2k (n:Nat)(g:List IV->ISt->IH->SRes)(xs:List IV):WS (gTp n g (.tup xs) σ h) N R=(xs.length=n/\WS (g xs σ h) N R):=by
 unfold gTp
 by_cases hn:xs.length=n
 ·simp[hn]
 ·simp[hn,WS]
theorem J4j:WS (gN [] σ h) N R=N σ h:=rfl
theorem J4i (i:Nat)(r:List IV->ISt->IH->SRes)(v:IV)(vs:List IV):WS (gC (gNm i) r (v::vs) σ h) N R=WS (r vs (σ.set i (Za v)) h) N R:=rfl
theorem Xf (f:Str)(o e:E1):WS (JR f o e σ h) N R=WR (e σ h) λ v h1=>WR (o σ h1) λ ov h2=>∃i c fs,ov=.ref i/\h2[i]?=Za (.ins c fs)/\fs.length<1000/\N σ (h2.set i (.ins c (putI f v fs))):=by
 unfold JR;rw[Q2];congr 1;funext v h1;rw[Q2];congr 1;funext ov h2
 cases ov with
 | ref i =>
  cases e:h2[i]? with
  | none=>simp[WS,e]
  | some o =>
   cases o with
   | ins c fs =>
    by_cases hl:fs.length<1000
    ·simp only[e,hl,if_true,WS]
     refine propext ⟨λ q=>⟨i,c,fs,rfl,e,hl,q⟩,λ ⟨i',c',fs',e1,e2,_,q⟩=>?_⟩
     cases e1
     rw[e] at e2
     cases e2
     exact q
    ·simp only[e,hl,if_false,WS]
     refine propext ⟨λ q=>q.elim,λ ⟨i',c',fs',e1,e2,hl',_⟩=>?_⟩
     cases e1
     rw[e] at e2
     cases e2
     exact hl hl'
   | _=>simp[WS,e]
 | _=>simp[WS]
theorem XZ (it:I1)(g:G1)(b:S1):WS (sFor it g b σ h) N R=WR (it σ h) λ J h1=>WS (Qd J.chk g b J.xs σ h1) N R:=by unfold sFor;rw[Q2]
theorem Qm (v:IV)(Q:IV->IH->Prop):WR (eC v σ h) Q=Q v h:=rfl
theorem Vv (f:IV->IV->IH->Res IV)(a b:E1)(Q:IV->IH->Prop):WR (Jc f a b σ h) Q=WR (a σ h) λ x h1=>WR (b σ h1) λ y h2=>WR (f x y h2) Q:=by
 unfold Jc;rw[Jv];congr 1;funext x h1;rw[Jv]
theorem Jv3 (f:IV->IH->Res IV)(a:E1)(Q:IV->IH->Prop):WR (eUn f a σ h) Q=WR (a σ h) λ x h1=>WR (f x h1) Q:=by unfold eUn;rw[Jv]
theorem Jo4 (a b:E1)(tr:IV->IH->Res Bool)(Q:IV->IH->Prop):WR (eAnd a b tr σ h) Q=WR (a σ h) λ x h1=>WR (tr x h1) λ c h2=>(c=Zg->WR (b σ h2) Q)/\(c=Zj->Q x h2):=by
 unfold eAnd;rw[Jv];congr 1;funext x h1;rw[Jv];congr 1;funext c h2;cases c<;>simp[WR]
theorem Jv1 (a b:E1)(tr:IV->IH->Res Bool)(Q:IV->IH->Prop):WR (eOr a b tr σ h) Q=WR (a σ h) λ x h1=>WR (tr x h1) λ c h2=>(c=Zg->Q x h2)/\(c=Zj->WR (b σ h2) Q):=by
 unfold eOr;rw[Jv];congr 1;funext x h1;rw[Jv];congr 1;funext c h2;cases c<;>simp[WR]
theorem Jvv (t:T1)(a b:E1)(Q:IV->IH->Prop):WR (eIf t a b σ h) Q=WR (t σ h) λ c h1=>(c=Zg->WR (a σ h1) Q)/\(c=Zj->WR (b σ h1) Q):=by
 unfold eIf;rw[Jv];congr 1;funext c h1;cases c<;>simp
theorem YT (a b:T1)(Q:Bool->IH->Prop):WR (JX a b σ h) Q=WR (a σ h) λ c h1=>(c=Zg->WR (b σ h1) Q)/\(c=Zj->Q Zj h1):=by
 unfold JX;rw[Jv];congr 1;funext c h1;cases c<;>simp[WR]
theorem Jpj (a b:T1)(Q:Bool->IH->Prop):WR (tOrI a b σ h) Q=WR (a σ h) λ c h1=>(c=Zg->Q Zg h1)/\(c=Zj->WR (b σ h1) Q):=by
 unfold tOrI;rw[Jv];congr 1;funext c h1;cases c<;>simp[WR]
theorem Jkt (a:T1)(Q:Bool->IH->Prop):WR (JB a σ h) Q=WR (a σ h) λ c h1=>Q (!c) h1:=by unfold JB;rw[Jv];rfl
theorem Jku (tr:IV->IH->Res Bool)(a:E1)(Q:Bool->IH->Prop):WR (Jh tr a σ h) Q=WR (a σ h) λ x h1=>WR (tr x h1) Q:=by unfold Jh;rw[Jv]
theorem YG (f g:IV->IV->IH->Res IV)(a b c:E1)(Q:IV->IH->Prop):WR (JW f g a b c σ h) Q=WR (a σ h) λ x h1=>WR (b σ h1) λ y h2=>WR (f x y h2) λ k h3=>∃t,k=.bl t/\(t=Zg->WR (c σ h3) λ z h4=>WR (g y z h4) Q)/\(t=Zj->Q (.bl Zj) h3):=by
 unfold JW;rw[Jv];congr 1;funext x h1;rw[Jv];congr 1;funext y h2;rw[Jv];congr 1;funext k h3
 cases k with
 | bl t =>
  cases t with
  | true =>
   show WR ((c σ h3).bind λ z h4=>g y z h4) Q=_
   rw[Jv]
   simp
  | false=>simp[WR]
 | _=>simp[WR]
theorem Jkq (Q:List IV->IH->Prop):WR (Jd σ h) Q=Q [] h:=rfl
theorem Jg4 (a:E1)(r:A1)(Q:List IV->IH->Prop):WR (Jb a r σ h) Q=WR (a σ h) λ x h1=>WR (r σ h1) λ xs h2=>Q (x::xs) h2:=by
 unfold Jb;rw[Jv];congr 1;funext x h1;rw[Jv];rfl
theorem YU (a:A1)(Q:IV->IH->Prop):WR (J8 a σ h) Q=WR (a σ h) λ xs h1=>xs.length<=sizeLine/\Q (.tup xs) h1:=by
 unfold J8;rw[Jv];congr 1;funext xs h1;rw[Va]
 by_cases hz:xs.length<=sizeLine<;>simp[hz,WR]
theorem YQ (a:A1)(Q:IV->IH->Prop):WR (Jw a σ h) Q=WR (a σ h) λ xs h1=>xs.length<=sizeLine/\Q (.ref h1.length) (h1++[.lst xs]):=by
 unfold Jw;rw[Jv];congr 1;funext xs h1;rw[Va]
 by_cases hz:xs.length<=sizeLine<;>simp[hz,WR]
theorem Jkr (f:List IV->IH->Res IV)(d:List IV)(a:A1)(Q:IV->IH->Prop):WR (Jm f d a σ h) Q=WR (a σ h) λ vs h1=>WR (f (vs++d) h1) Q:=by
 unfold Jm;rw[Jv]
theorem Vx (c:Str)(f:List IV->IH->Res IV)(d:List IV)(a:A1)(Q:IV->IH->Prop):WR (QB c f d a σ h) Q=WR (a σ h) λ vs h1=>WR (f (.ref h1.length::(vs++d)) (h1++[.ins c []])) λ r h2=>r=.non/\Q (.ref h1.length) h2:=by
 unfold QB;rw[Jv];congr 1;funext vs h1;rw[Jv];congr 1;funext r h2;cases r<;>simp[WR]
theorem Jvp (f:List IV->IH->Res IV)(a:A1)(Q:IV->IH->Prop):WR (eCB f a σ h) Q=WR (a σ h) λ vs h1=>WR (f vs h1) Q:=by unfold eCB;rw[Jv]
theorem Xy (f:IV->IH->Res IV)(x:IV)(Q:IV->IH->Prop):WR (on1 f [x] h) Q=WR (f x h) Q:=rfl
theorem Jo7 (ans:Ty->Option Bool)(e:E1)(Q:IV->IH->Prop):WR (eIsi ans e σ h) Q=WR (e σ h) λ v h1=>∃b,(tyI v h1).bind ans=Za b/\Q (.bl b) h1:=by
 unfold eIsi;rw[Jv];congr 1;funext v h1
 cases (tyI v h1).bind ans<;>simp[WR]
theorem Jg6 (Q:Option Int->IH->Prop):WR (VF σ h) Q=Q Zc h:=rfl
theorem Jg7 (e:E1)(Q:Option Int->IH->Prop):WR (QH e σ h) Q=WR (e σ h) λ v h1=>∃i,v=.int i/\Q (Za i) h1:=by
 unfold QH;rw[Jv];congr 1;funext v h1;cases v<;>simp[WR]
theorem Xe (f:IV->Option Int->Option Int->IH->Res IV)(e:E1)(lo hi:O1)(Q:IV->IH->Prop):WR (eSl f e lo hi σ h) Q=WR (e σ h) λ x h1=>WR (lo σ h1) λ l h2=>WR (hi σ h2) λ u h3=>WR (f x l u h3) Q:=by
 unfold eSl;rw[Jv];congr 1;funext x h1;rw[Jv];congr 1;funext l h2;rw[Jv]
def VV (f:Str)(v:IV)(h:IH):Option IV:=match v with
 | .ref i=>(match h[i]? with
  | some (.ins _ fs)=>fs.lookup f
  | _=>Zc)
 | _=>Zc
theorem YK (f:Str)(o:E1)(Q:IV->IH->Prop):WR (Jq f o σ h) Q=WR (o σ h) λ v h1=>∃x,VV f v h1=Za x/\Q x h1:=by
 unfold Jq;rw[Jv];congr 1;funext v h1
 cases v with
 | ref i =>
  unfold VV
  cases e:h1[i]? with
  | none=>simp[WR,e]
  | some ob =>
   cases ob with
   | ins c fs=>cases e2:fs.lookup f<;>simp[WR,e,e2]
   | _=>simp[WR,e]
 | _=>simp[WR,VV]
variable {i j:Int}{x y:Str}{P:IV->IH->Prop}
theorem YD (i j:Int):WR (Jl (.int i) (.int j) h) P=P (.int (i+j)) h:=rfl
theorem Jpi (i j:Int):WR (JZ (.int i) (.int j) h) P=P (.int (i-j)) h:=rfl
theorem Jpb (i:Int):WR (Yz (.int i) h) P=P (.int (-i)) h:=rfl
theorem YS (i j:Int):WR (Qy (.int i) (.int j) h) P=(Vc i j/\P (.int (i*j)) h):=by
 show WR (XE (.int i) (.int j) h) P=_
 unfold XE;rw[Va];by_cases hm:Vc i j<;>simp[hm,WR]
theorem YI (i j:Int):WR (JI (.int i) (.int j) h) P=((0<j/\j.natAbs.log2<9000)/\P (.int (i/j)) h):=by
 unfold JI;rw[Va];by_cases hm:0<j/\j.natAbs.log2<9000<;>simp[hm,WR]
theorem YR (i j:Int):WR (Ju (.int i) (.int j) h) P=(0<j/\P (.int (i%j)) h):=by
 unfold Ju;rw[Va];by_cases hm:0<j<;>simp[hm,WR]
theorem VJ (i j:Int):WR (JJ (.int i) (.int j) h) P=((0<=j/\j<=1000000/\i.natAbs<2^64)/\P (.int (i^j.toNat)) h):=by
 unfold JJ;rw[Va];by_cases hm:0<=j/\j<=1000000/\i.natAbs<2^64<;>simp[hm,WR]
theorem YF (x y:Str):WR (Jl (.str x) (.str y) h) P=(x.length+y.length<=sizeLine/\P (.str (x++y)) h):=by
 unfold Jl;rw[Va];by_cases hm:x.length+y.length<=sizeLine<;>simp[hm,WR]
theorem Jvy (i j:Int):WR (cLt (.int i) (.int j) h) P=P (.bl (decide (i<j))) h:=rfl
theorem Jvw (i j:Int):WR (cLe (.int i) (.int j) h) P=P (.bl (decide (i<=j))) h:=rfl
theorem J2j (x y:Str):WR (cLe (.str x) (.str y) h) P=P (.bl (!decide (y.cps.toList<x.cps.toList))) h:=rfl
theorem Jvu (i j:Int):WR (cGt (.int i) (.int j) h) P=P (.bl (decide (j<i))) h:=rfl
theorem Jvt (i j:Int):WR (cGe (.int i) (.int j) h) P=P (.bl (decide (j<=i))) h:=rfl
theorem Jvs (i j:Int):WR (cEq (.int i) (.int j) h) P=P (.bl (decide (i=j))) h:=rfl
theorem Jvz (i j:Int):WR (cNe (.int i) (.int j) h) P=P (.bl (!decide (i=j))) h:=rfl
theorem Jo6 (x y:Str):WR (cEq (.str x) (.str y) h) P=P (.bl (decide (x=y))) h:=rfl
theorem Jpc (x y:Str):WR (cNe (.str x) (.str y) h) P=P (.bl (!decide (x=y))) h:=rfl
theorem Jo5 (b:Bool)(P:Bool->IH->Prop):WR (asB (.bl b) h) P=P b h:=rfl
theorem Jkv (b:Bool)(P:Bool->IH->Prop):WR (tru (.bl b) h) P=P b h:=rfl
theorem Jpd (tr:IV->IH->Res Bool)(v:IV):WR (XF tr v h) P=WR (tr v h) λ c h1=>P (.bl (!c)) h1:=by unfold XF;rw[Jv];rfl
theorem J2i (v w:IV):WR (cIs v w h) P=∃b,isI v w=Za b/\P (.bl b) h:=by unfold cIs;cases isI v w<;>simp[WR]
theorem Qn {chk:IH->Prop}{g:G1}{b:S1}(I:Nat->ISt->IH->Prop){xs:List IV}(hc:∀i σ h,I i σ h->chk h) 
  (turn:∀i (hi:i<xs.length) σ h,I i σ h->WS (g xs[i] σ h) (λ σ1 h1=>WS (b σ1 h1) (I (i+1)) R) λ _ _=>False)(done:∀σ h,I xs.length σ h->N σ h)(start:I 0 σ h):WS (Qd chk g b xs σ h) N R:=by
 have key:∀(n i:Nat)(σ:ISt)(h:IH),xs.length-i=n->i<=xs.length->I i σ h->WS (Qd chk g b (xs.drop i) σ h) N R:=by
  intro n
  induction n with
  | zero =>
   intro i σ h hn hi hI
   have:i=xs.length:=by omega
   subst this
   rw[List.drop_length]
   unfold Qd
   rw[if_pos (hc _ _ _ hI)]
   exact done _ _ hI
  | succ n ih =>
   intro i σ h hn hi hI
   have hlt:i<xs.length:=by omega
   rw[Zbc hlt]
   unfold Qd
   rw[if_pos (hc _ _ _ hI)]
   have t:=turn i hlt σ h hI
   cases eg:g xs[i] σ h with
   | next σ1 h1 =>
    rw[eg] at t
    have t':WS (b σ1 h1) (I (i+1)) R:=t
    dsimp only
    cases eb:b σ1 h1 with
    | next σ2 h2=>rw[eb] at t';exact ih (i+1) σ2 h2 (by omega) hlt t'
    | ret v h2=>rw[eb] at t';exact t'
    | brk σ2 h2=>rw[eb] at t';exact t'.elim
    | cont σ2 h2=>rw[eb] at t';exact t'.elim
    | exc m σ2 h2=>rw[eb] at t';exact t'.elim
    | stuck=>rw[eb] at t';exact t'.elim
   | ret v h1=>rw[eg] at t;exact t.elim
   | brk σ2 h2=>rw[eg] at t;exact t.elim
   | cont σ2 h2=>rw[eg] at t;exact t.elim
   | exc m σ2 h2=>rw[eg] at t;exact t.elim
   | stuck=>rw[eg] at t;exact t.elim
 have:=key xs.length 0 σ h (by omega) (ZX _) start
 simpa using this
end
section
variable {α:Type}{h h1:IH}{a:α}{r:Res α}{P:IV->IH->Prop}
theorem Js (x:WR r λ v h'=>v=a/\h'=h1):r=.ok a h1:=by
 obtain⟨_,_,e,rfl,rfl⟩:=x.eq
 exact e
theorem Xx (xs:List IV)(n:Int):WR (Jf (.tup xs) (.int n) h) P=∃x,atI xs n=Za x/\P x h:=by
 unfold Jf;cases e:atI xs n<;>simp[WR,e]
theorem YL (xs:List IV)(n:Int):WR (Jf (.rol xs) (.int n) h) P=∃x,atI xs n=Za x/\P x h:=by
 unfold Jf;cases e:atI xs n<;>simp[WR,e]
theorem Jtg (i:Nat)(n:Int):WR (Jf (.ref i) (.int n) h) P=∃xs,h[i]?=Za (.lst xs)/\∃x,atI xs n=Za x/\P x h:=by
 unfold Jf
 cases e:h[i]? with
 | none=>simp[WR,e]
 | some o =>
  cases o with
  | lst xs=>cases e2:atI xs n<;>simp[WR,e,e2]
  | _=>simp[WR,e]
theorem YO (xs:List IV):WR (lenI (.tup xs) h) P=P (.int xs.length) h:=rfl
theorem YM (xs:List IV):WR (lenI (.rol xs) h) P=P (.int xs.length) h:=rfl
theorem Jn2 (i:Nat):WR (lenI (.ref i) h) P=∃xs,h[i]?=Za (.lst xs)/\P (.int xs.length) h:=by
 unfold lenI
 cases e:h[i]? with
 | none=>simp[WR,e]
 | some o=>cases o<;>simp[WR,e]
theorem YN (x:Str):WR (lenI (.str x) h) P=(x.length<=sizeLine/\P (.int x.length) h):=by
 unfold lenI;rw[Va];by_cases hm:x.length<=sizeLine<;>simp[hm,WR]
theorem JE {xs:List α}{n:Nat}(e:xs[n]?=Za x):atI xs (n:Int)=Za x:=by
 have hn:n<xs.length:=(Zr.mp e).1
 have:(n:Int)<xs.length:=by omega
 simp[atI,ixN,this,e]
theorem Qc:atI (x::xs) 0=Za x:=by simp[atI,ixN]
theorem JU {x y:α}{xs:List α}:atI (x::y::xs) 1=Za y:=JE (n:=1) rfl
theorem Qj {x y z:α}{xs:List α}:atI (x::y::z::xs) 2=Za z:=JE (n:=2) rfl
theorem Qf {x y z u:α}{xs:List α}:atI (x::y::z::u::xs) 3=Za u:=JE (n:=3) rfl
theorem Vh {x y z u v:α}{xs:List α}:atI (x::y::z::u::v::xs) 4=Za v:=JE (n:=4) rfl
theorem Jmy {xs:List α}{n:Int}(h0:0<=n)(e:xs[n.toNat]?=Za x):atI xs n=Za x:=by
 have:=JE e
 rwa [Int.toNat_of_nonneg h0] at this
theorem Y7 (i:Int):tyI (.int i) h=Za .int:=rfl
theorem YB (x:Str):tyI (.str x) h=Za .str:=rfl
theorem YC (xs:List IV):tyI (.tup xs) h=Za .tup:=rfl
theorem Y8 (b:Bool):tyI (.bl b) h=Za .bl:=rfl
theorem Y9:tyI .non h=Za .non:=rfl
theorem YA (xs:List IV):tyI (.rol xs) h=Za .lst:=rfl
theorem Jw4 (e:h[i]?=Za (.lst xs)):tyI (.ref i) h=Za .lst:=by simp[tyI,e]
theorem grow {i:Nat}(e:h[i]?=Za o):(h++g)[i]?=Za o:=by
 rw[ZE (Zr.mp e).1];exact e
theorem Jk:(h++[o])[h.length]?=Za o:=by simp
theorem JC (e:h[i]?=Za o):i<h.length:=(Zr.mp e).1
theorem Jk7 (f:IV->Bool):∀xs:List IV,Xj (xs.map λ x=>.bl (f x))=Za (xs.map f)
 | []=>rfl
 | x::xs=>by simp[Xj,Jk7 f xs]
theorem all_map {xs:List IV}(e:h[i]?=Za (.lst (xs.map λ x=>.bl (f x)))):allI (.ref i) h=.ok (.bl (xs.all f)) h:=by
 simp[allI,e,Jk7,List.all_map,Function.comp_def]
end
def Ex (h h':IH):Prop:=∃g,h'=h++g
theorem Ex.refl (h:IH):Ex h h:=⟨[],by simp⟩
theorem Ex.trans (a:Ex h h1)(b:Ex h1 h2):Ex h h2:=by
 obtain⟨g,rfl⟩:=a
 obtain⟨g',rfl⟩:=b
 exact⟨g++g',by simp⟩
theorem Ex.get (a:Ex h h'){i:Nat}(e:h[i]?=Za o):h'[i]?=Za o:=by
 obtain⟨g,rfl⟩:=a
 exact grow e
theorem Ex.one (h:IH)(o:IX):Ex h (h++[o]):=⟨[o],rfl⟩
theorem Ex.len (a:Ex h h'):h.length<=h'.length:=by
 obtain⟨g,rfl⟩:=a
 simp
section
variable {α:Type}{h:IH}
theorem Jxo {chk:IH->Prop}{t:T1}{e:E1}{caps:ISt}{p:IV->Bool}{f:IV->IV}(i0:Nat):∀{xs acc:List IV}{o:Option IV}{h1:IH},h1[i0]?=Za (.lst acc)->(∀h2,(∀j ob,j≠i0->h1[j]?=Za ob->h2[j]?=Za ob)->chk h2)->acc.length+xs.length<sizeLine ->
  (∀x∈xs,∀h2,(∀j ob,j≠i0->h1[j]?=Za ob->h2[j]?=Za ob)->WR (t (Za x::caps) h2) λ b h3=>b=p x/\Ex h2 h3) ->
  (∀x∈xs,p x=Zg->∀h2,(∀j ob,j≠i0->h1[j]?=Za ob->h2[j]?=Za ob)->WR (e (Za x::caps) h2) λ v h3=>v=f x/\Ex h2 h3) ->
  WR (JQ chk (gNm 0) t e i0 xs (o::caps) h1) λ v h3=>v=.ref i0/\∃g,h3=h1.set i0 (.lst (acc++(xs.filter p).map f))++g
 | [],acc,o,h1,hi,hc,_,_,_=>by
  unfold JQ
  rw[if_pos (hc h1 λ _ _ _ q=>q)]
  refine⟨rfl,[],?_⟩
  simp only[List.filter_nil,Za6,Zaw]
  refine(Zb7 λ j=>?_)
  by_cases hj:j=i0
  ·subst hj
   rw[hi,ZL (JC hi)]
  ·rw[ZI (ZQ hj)]
 | x::xs,acc,o,h1,hi,hc,hl,ht,he=>by
  unfold JQ
  rw[if_pos (hc h1 λ _ _ _ q=>q)]
  dsimp only[gNm,Zbw]
  have hl':acc.length+xs.length+1<sizeLine:=by simpa [Zej] using hl
  obtain⟨b,h2,e1,rfl,x2⟩:=(ht x Z7 h1 λ _ _ _ q=>q).eq
  rw[e1]
  have k12:∀j ob,j≠i0->h1[j]?=Za ob->h2[j]?=Za ob:=λ j ob _ q=>x2.get q
  cases hp:p x with
  | false =>
   dsimp only
   refine WR.mono (Jxo i0 (x2.get hi) (λ h3 q=>hc h3 λ j ob n r=>q j ob n (k12 j ob n r)) (by omega) (λ y hy h3 q=>ht y (Zp _ hy) h3 λ j ob n r=>q j ob n (k12 j ob n r))
    λ y hy hpy h3 q=>he y (Zp _ hy) hpy h3 λ j ob n r=>q j ob n (k12 j ob n r)) λ v h3 ⟨ev,g,eg⟩=>⟨ev,?_⟩
   obtain⟨g2,rfl⟩:=x2
   refine⟨g2++g,?_⟩
   rw[eg,Zay (h:=JC hi)]
   simp[hp]
  | true =>
   dsimp only
   obtain⟨v,h3,e3,rfl,x3⟩:=(he x Z7 hp h2 k12).eq
   rw[e3]
   dsimp only
   rw[x3.get (x2.get hi)]
   dsimp only
   rw[if_pos (by omega)]
   have k13:∀j ob,j≠i0->h1[j]?=Za ob->(h3.set i0 (.lst (acc++[f x])))[j]?=Za ob:=λ j ob n q=>by
    rw[ZI (ZQ n)]
    exact x3.get (x2.get q)
   refine WR.mono (Jxo i0 (acc:=acc++[f x]) (by rw[ZL (JC (x3.get (x2.get hi)))]) (λ h4 q=>hc h4 λ j ob n r=>q j ob n (k13 j ob n r)) (by simp;omega) (λ y hy h4 q=>ht y (Zp _ hy) h4 λ j ob n r=>q j ob n (k13 j ob n r))
    λ y hy hpy h4 q=>he y (Zp _ hy) hpy h4 λ j ob n r=>q j ob n (k13 j ob n r)) λ v h4 ⟨ev,g,eg⟩=>⟨ev,?_⟩
   obtain⟨g3,q3⟩:=x2.trans x3
   refine⟨g3++g,?_⟩
   rw[eg,q3,Zay (h:=JC hi),Zay (h:=by rw[Zbo];exact JC hi),ZdN]
   simp[hp]
theorem YH {t:T1}{e:E1}{js:List Nat}{p:IV->Bool}{f:IV->IV}(hit:WR (it σ h0) λ J h1=>J.xs=xs/\J.chk=chk/\h1=h)(hl:xs.length<sizeLine) 
  (hc:∀h2:IH,(∀(j:Nat)(ob:IX),h[j]?=Za ob->h2[j]?=Za ob)->chk h2)
  (ht:∀x∈xs,∀h2:IH,(∀(j:Nat)(ob:IX),h[j]?=Za ob->h2[j]?=Za ob)->WR (t (Za x::js.map λ j=>(σ[j]?).join) h2) λ b h3=>b=p x/\Ex h2 h3)
  (he:∀x∈xs,p x=Zg->∀h2:IH,(∀(j:Nat)(ob:IX),h[j]?=Za ob->h2[j]?=Za ob)->WR (e (Za x::js.map λ j=>(σ[j]?).join) h2) λ v h3=>v=f x/\Ex h2 h3) :
  WR (J0 it 1 js (gNm 0) t e σ h0) λ v h3=>v=.ref h.length/\∃g,h3=h++.lst ((xs.filter p).map f)::g:=by
 obtain⟨J,h1,e1,q1,q2,rfl⟩:=hit.eq
 unfold J0
 rw[e1]
 show WR (JQ J.chk (gNm 0) t e h1.length J.xs (Zc::js.map λ j=>(σ[j]?).join) (h1++[.lst []])) _
 rw[q1,q2]
 have lift:∀{h2:IH},(∀j ob,j≠h1.length->(h1++[IX.lst []])[j]?=Za ob->h2[j]?=Za ob)->∀j ob,h1[j]?=Za ob->h2[j]?=Za ob:=λ q j ob r=>q j ob (Z5 (JC r)) (grow r)
 refine WR.mono (Jxo (p:=p) (f:=f) h1.length (acc:=[]) Jk (λ h2 q=>hc h2 (lift q)) (by simpa using hl) (λ x hx h2 q=>ht x hx h2 (lift q)) λ x hx hp h2 q=>he x hx hp h2 (lift q)) λ v h3 ⟨ev,g,eg⟩=>⟨ev,g,?_⟩
 rw[eg]
 simp
theorem filt {α:Type}(xs:List α):xs.filter (λ _=>Zg)=xs:=List.filter_eq_self.mpr (by simp)
theorem Qh {e:E1}{js:List Nat}{f:IV->IV}(hit:WR (it σ h0) λ J h1=>J.xs=xs/\J.chk=chk/\h1=h)(hl:xs.length<sizeLine) 
  (hc:∀h2:IH,(∀(j:Nat)(ob:IX),h[j]?=Za ob->h2[j]?=Za ob)->chk h2)
  (he:∀x∈xs,∀h2:IH,(∀(j:Nat)(ob:IX),h[j]?=Za ob->h2[j]?=Za ob)->WR (e (Za x::js.map λ j=>(σ[j]?).join) h2) λ v h3=>v=f x/\Ex h2 h3) :
  WR (J0 it 1 js (gNm 0) JF e σ h0) λ v h3=>v=.ref h.length/\∃g,h3=h++.lst (xs.map f)::g:=by
 have:=YH (p:=λ _=>Zg) (f:=f) (t:=JF) (e:=e) (js:=js) (σ:=σ) (h:=h) hit hl hc (λ _ _ h2 _=>⟨rfl,.refl _⟩) λ x hx _ h2 q=>he x hx h2 q
 rwa [filt] at this
theorem Jz {g:IH}:(h++o::g)[h.length]?=Za o:=by simp
theorem Ex.cons (h:IH)(o:IX)(g:IH):Ex h (h++o::g):=⟨_,rfl⟩
end
section
variable {σ:ISt}{h h1:IH}{Q:IV->IH->Prop}{J:ItI->IH->Prop}
theorem JT (e:E1):WR (Jx e σ h) J=WR (e σ h) λ v h1=>WR (X5 v h1) J:=by unfold Jx;rw[Jv]
theorem Vw (f:List IV->IH->Res ItI)(a:A1):WR (iRg f a σ h) J=WR (a σ h) λ vs h1=>WR (f vs h1) J:=by unfold iRg;rw[Jv]
theorem JK (i:Nat):WR (X5 (.ref i) h) J=∃xs,h[i]?=Za (.lst xs)/\J ⟨xs,λ h'=>h'[i]?=Za (.lst xs)⟩ h:=by
 show WR (itOf (.ref i) h) J=_
 unfold itOf
 cases e:h[i]? with
 | none=>simp[WR,e]
 | some o=>cases o<;>simp[WR,e]
theorem Jo8 (xs:List IV):WR (X5 (.rol xs) h) J=J ⟨xs,λ _=>True⟩ h:=rfl
theorem Jpa (xs:List IV):WR (X5 (.tup xs) h) J=J ⟨xs,λ _=>True⟩ h:=rfl
theorem Jo9 (x:Str):WR (X5 (.str x) h) J=J ⟨Vs x,λ _=>True⟩ h:=rfl
theorem Jn1 (i:Nat):WR (QD [.ref i] h) J=∃xs,h[i]?=Za (.lst xs)/\J ⟨Q5 0 xs,λ h'=>h'[i]?=Za (.lst xs)⟩ h:=by
 show WR (QD [.ref i] h) J=_
 unfold QD
 cases e:h[i]? with
 | none=>simp[WR,e]
 | some o=>cases o<;>simp[WR,e]
theorem Xd (j:Int):WR (Q6 [.int j] h) J=((-(2^62)<=j/\j<2^62)/\J ⟨rngI 0 j,λ _=>True⟩ h):=by
 unfold Q6;rw[Va];exact propext ⟨λ ⟨a,b⟩=>(Classical.em _).elim (λ q=>⟨q,a q⟩) λ q=>(b q).elim,λ ⟨a,b⟩=>⟨λ _=>b,λ q=>absurd a q⟩⟩
theorem Jks (i j:Int):WR (Jwf [.int i,.int j] h) J=((-(2^62)<=i/\i<2^62/\ -(2^62)<=j/\j<2^62)/\J ⟨rngI i j,λ _=>True⟩ h):=by
 unfold Jwf;rw[Va];exact propext ⟨λ ⟨a,b⟩=>(Classical.em _).elim (λ q=>⟨q,a q⟩) λ q=>(b q).elim,λ ⟨a,b⟩=>⟨λ _=>b,λ q=>absurd a q⟩⟩
theorem Ql (i j:Int):(rngI i j).length=(j-i).toNat:=by simp[rngI]
theorem VG (i j:Int)(n:Nat)(hn:n<(rngI i j).length):(rngI i j)[n]=.int (i+n):=by simp[rngI]
theorem Jm7 (xs:List IV)(n:Nat)(hn:n<(Q5 0 xs).length):(Q5 0 xs)[n]=.tup [.int n,xs[n]'(by rwa [VU] at hn)]:=by
 have:=Jhr xs 0 n
 rw[Zb hn,Zb (by rwa [VU] at hn)] at this
 simpa using this
theorem Jpg (i:Nat)(lo hi:Option Int):WR (slI (.ref i) lo hi h) Q=∃xs,h[i]?=Za (.lst xs)/\Q (.ref h.length) (h++[.lst (cutI xs lo hi)]):=by
 unfold slI
 cases e:h[i]? with
 | none=>simp[WR,e]
 | some o=>cases o<;>simp[WR,e]
theorem Jph (xs:List IV)(lo hi:Option Int):WR (slI (.rol xs) lo hi h) Q=Q (.ref h.length) (h++[.lst (cutI xs lo hi)]):=rfl
theorem Jot (n d:Nat):HT.sIx n d Zc=d:=HT.sIx_none n d
theorem Job (xs:List α)(n:Nat):cutI xs Zc (Za (n:Int))=xs.take n:=by
 unfold cutI
 rw[Jot,HT.sIx_nat]
 simp
theorem Joa (xs:List α)(n:Nat):cutI xs (Za (n:Int)) Zc=xs.drop n:=by
 unfold cutI
 rw[Jot,HT.sIx_nat]
 by_cases hn:n<=xs.length
 ·rw[Nat.min_eq_left hn]
  exact Zaz (by simp)
 ·rw[Nat.min_eq_right (by omega),List.drop_length,ZcA (by omega)]
  simp
theorem Jxp (xs:List α)(n m:Nat):cutI xs (Za (n:Int)) (Za (m:Int))=(xs.take m).drop n:=by
 unfold cutI
 rw[HT.sIx_nat,HT.sIx_nat]
 refine Zb7 λ i=>?_
 simp only[List.getElem?_take,List.getElem?_drop]
 by_cases h1:n+i<xs.length
 ·rw[Nat.min_eq_left (show n<=xs.length by omega)]
  by_cases h3:n+i<m
  ·rw[if_pos h3,if_pos (by omega)]
  ·rw[if_neg h3,if_neg (by omega)]
 ·rw[show xs[n+i]?=Zc from ZaJ (by omega),show xs[min n xs.length+i]?=Zc from ZaJ (by omega)]
  simp
variable {P:Pg}{m:Str}{n i:Nat}{o:E1}{a:A1}{xs:List IV}{c:Str}{fs:List (Str×IV)}
theorem Jzl (e:o σ h=.ok (.ref i) h1)(hl:h1[i]?=Za (.lst xs))(hg:bmOf "list" m n=Za g):WR (Jo P m n o a σ h) Q=WR (a σ h1) λ vs h2=>WR (g (.ref i) vs h2) Q:=by
 unfold Jo
 rw[e]
 have hi:VW (.ref i) h1=Zj:=by simp[VW,hl]
 have ht:tyS (.ref i) h1="list":=by simp[tyS,hl]
 dsimp only
 rw[hi,ht,hg]
 dsimp only
 rw[if_neg Zs]
 unfold eBm
 rw[e,Jv,Vy]
 have:tyOk "list" (.ref i) h1=Zg:=by simp[tyOk,hl]
 rw[if_pos this,Jv]
theorem Qr (e:o σ h=.ok (.ref i) h1)(hi:h1[i]?=Za (.ins c fs))(hf:fs.lookup m=Zc)(hd:JG P m n c=Za (f,d)):WR (Jo P m n o a σ h) Q=WR (a σ h1) λ vs h2=>WR (f (.ref i::(vs++d)) h2) Q:=by
 unfold Jo
 rw[e]
 have hi':VW (.ref i) h1=Zg:=by simp[VW,hi]
 dsimp only
 rw[hi',if_pos rfl]
 unfold Jtx
 rw[e,Jv,Vy]
 dsimp only
 rw[hi]
 dsimp only
 rw[hd,hf]
 dsimp only
 rw[Jv]
theorem Jtb (y:IV):WR (Xh (.ref i) [y] h) Q=∃xs,h[i]?=Za (.lst xs)/\xs.length<sizeLine/\Q .non (h.set i (.lst (xs++[y]))):=by
 unfold Xh
 cases e:h[i]? with
 | none=>simp[WR,e]
 | some ob =>
  cases ob with
  | lst xs=>by_cases hz:xs.length<sizeLine<;>simp[WR,e,hz]
  | _=>simp[WR,e]
theorem V6:bmOf "list" "append" 1=Za Xh:=by kernel_rfl
theorem Qg (e:h[i]?=Za (.ins c fs)):VV f (.ref i) h=fs.lookup f:=by simp[VV,e]
theorem Jvx:WR (Vo (.ref i) h) Q=∃xs,h[i]?=Za (.lst xs)/\Q (.ref h.length) (h++[.lst xs]):=by
 unfold Vo
 cases e:h[i]? with
 | none=>simp[WR,e]
 | some ob=>cases ob<;>simp[WR,e]
theorem Jg5 (xs:List IV):WR (Vo (.tup xs) h) Q=Q (.ref h.length) (h++[.lst xs]):=rfl
theorem Jtj:WR (Xw (.ref i) h) Q=∃xs,h[i]?=Za (.lst xs)/\Q (.tup xs) h:=by
 unfold Xw
 cases e:h[i]? with
 | none=>simp[WR,e]
 | some ob=>cases ob<;>simp[WR,e]
end
section
variable {σ:ISt}{h:IH}{Q:IV->IH->Prop}
theorem YE (i j:Nat):WR (Jl (.ref i) (.ref j) h) Q=∃xs,h[i]?=Za (.lst xs)/\∃ys,h[j]?=Za (.lst ys)/\xs.length+ys.length<=sizeLine/\Q (.ref h.length) (h++[.lst (xs++ys)]):=by
 unfold Jl
 cases e:h[i]? with
 | none=>simp[WR,e]
 | some o =>
  cases e':h[j]? with
  | none=>cases o<;>simp[WR,e,e']
  | some o' =>
   cases o<;>cases o'<;>simp only[e,e',Va,Vy,Jv2,ZaI,IX.lst.injEq,reduceCtorEq,exists_eq_left',false_and,and_false,exists_false,imp_false,Decidable.not_not]
   simp only[eq_iff_iff]
   exact⟨λ ⟨a,b⟩=>⟨b,a b⟩,λ ⟨a,b⟩=>⟨λ _=>b,a⟩⟩
end
section
variable {σ:ISt}{h h1:IH}{Q:IV->IH->Prop}{P:Pg}{m:Str}{n i:Nat}{o:E1}{a:A1}{x:Str}
theorem Jzm (e:o σ h=.ok (.str x) h1)(hg:bmOf "str" m n=Za g):WR (Jo P m n o a σ h) Q=WR (a σ h1) λ vs h2=>WR (g (.str x) vs h2) Q:=by
 unfold Jo
 rw[e]
 have hi:VW (.str x) h1=Zj:=rfl
 have ht:tyS (.str x) h1="str":=rfl
 dsimp only
 rw[hi,ht,hg]
 dsimp only
 rw[if_neg Zs]
 unfold eBm
 rw[e,Jv,Vy]
 have:tyOk "str" (.str x) h1=Zg:=rfl
 rw[if_pos this,Jv]
theorem Jxj:bmOf "str" "join" 1=Za X6:=by kernel_rfl
theorem Jzn:WR (X6 (.str x) [.ref i] h) Q=∃xs,h[i]?=Za (.lst xs)/\∃zs,Qz xs=Za zs/\JoinOk x zs=Zg/\Q (.str (Txt.join x zs)) h:=by
 unfold X6
 cases e:h[i]? with
 | none=>simp[WR,e]
 | some ob =>
  cases ob with
  | lst xs =>
   cases q:Qz xs with
   | none=>simp[WR,e,q]
   | some zs=>by_cases hz:JoinOk x zs=Zg<;>simp[WR,e,q,hz]
  | _=>simp[WR,e]
theorem Jkk:∀zs:List Str,Qz (zs.map IV.str)=Za zs
 | []=>rfl
 | z::zs=>by
  rw[Z4,Qz,Jkk zs];rfl
end
section
variable {σ:ISt}{h:IH}{Q:IV->IH->Prop}{i:Nat}
theorem Jzt:WR (sumI (.ref i) h) Q=∃xs,h[i]?=Za (.lst xs)/\∃ns,JP xs=Za ns/\Q (.int ns.sum) h:=by
 unfold sumI
 cases e:h[i]? with
 | none=>simp[WR,e]
 | some ob =>
  cases ob with
  | lst xs=>cases q:JP xs<;>simp[WR,e,q]
  | _=>simp[WR,e]
theorem V8:∀ns:List Int,JP (ns.map IV.int)=Za ns
 | []=>rfl
 | n::ns=>by
  rw[Z4,JP,V8 ns];rfl
theorem Jzp (aa:A1)(md:E1):WR (Yn aa md σ h) Q=WR (aa σ h) λ xs h1=>WR (md σ h1) λ d h2=>∃i,xs=[.ref i]/\∃ys,h2[i]?=Za (.lst ys)/\∃ns,JP ys=Za ns/\Q (maxD ns d) h2:=by
 unfold Yn
 rw[Jv]
 congr 1;funext xs h1
 rw[Jv]
 congr 1;funext d h2
 match xs with
 | [.ref i] =>
  simp only[Zda,IV.ref.injEq,and_true,exists_eq_left']
  cases e:h2[i]? with
  | none=>simp[WR]
  | some ob =>
   cases ob with
   | lst ys=>cases q:JP ys<;>simp[WR,q]
   | _=>simp[WR]
 | []=>simp[WR]
 | [.non]=>simp[WR]
 | [.bl _]=>simp[WR]
 | [.int _]=>simp[WR]
 | [.str _]=>simp[WR]
 | [.tup _]=>simp[WR]
 | [.rol _]=>simp[WR]
 | x::_::_=>cases x<;>simp[WR]
theorem Jti (aa:A1):WR (Ym aa σ h) Q=WR (aa σ h) λ xs h1=>∃i,xs=[.ref i]/\∃ys,h1[i]?=Za (.lst ys)/\∃zs,Qz ys=Za zs/\zs.length+1<Zcc/\Q (.int (cntD (QM zs) zs.length)) h1:=by
 unfold Ym
 rw[Jv]
 congr 1;funext xs h1
 match xs with
 | [.ref i] =>
  simp only[Zda,IV.ref.injEq,and_true,exists_eq_left']
  cases e:h1[i]? with
  | none=>simp[WR]
  | some ob =>
   cases ob with
   | lst ys =>
    cases q:Qz ys with
    | none=>simp[WR,q]
    | some zs=>by_cases hz:zs.length+1<Zcc<;>simp[WR,q,hz]
   | _=>simp[WR]
 | []=>simp[WR]
 | [.non]=>simp[WR]
 | [.bl _]=>simp[WR]
 | [.int _]=>simp[WR]
 | [.str _]=>simp[WR]
 | [.tup _]=>simp[WR]
 | [.rol _]=>simp[WR]
 | x::_::_=>cases x<;>simp[WR]
theorem Jld {zs:List Str}(nd:zs.Nodup):∀i,i<=zs.length->cntD (QM zs) i=i
 | 0,_=>rfl
 | i+1,hi=>by
  have ih:=Jld nd i (by omega)
  have hm:metB (QM zs) i (QM zs i)=Zj:=by
   unfold metB
   rw[List.any_eq_false]
   intro j hj
   have hj:=Zal.mp hj
   simp only[decide_eq_true_eq]
   intro e
   simp only[QM,Zk,Zb (show j<zs.length by omega),Zb (show i<zs.length by omega),ZdB] at e
   have:=(ZcI nd).mp e
   omega
  unfold cntD
  rw[hm,ih]
  rfl
theorem Jwy (f:Nat->Int):∀(n j:Nat),j<n->f j<=JS f n
 | 0,_,h=>by omega
 | 1,j,h=>by
  obtain rfl:j=0:=by omega
  exact ZaB _
 | n+2,j,h=>by
  rw[Jf6 f (by omega)]
  by_cases hj:j=n+1
  ·subst hj;split<;>omega
  ·have:=Jwy f (n+1) j (by omega)
   split<;>omega
theorem Jwz (f:Nat->Int)(b:Int):∀(n:Nat),0<n->(∀j,j<n->f j<=b)->JS f n<=b
 | 0,h,_=>by omega
 | 1,_,q=>q 0 (by omega)
 | n+2,_,q=>by
  rw[Jf6 f (by omega)]
  have:=Jwz f b (n+1) (by omega) λ j hj=>q j (by omega)
  have:=q (n+1) (by omega)
  split<;>omega
end
section
variable {h:IH}{Q:IV->IH->Prop}{i:Nat}
end
def KpB (i0:Nat)(h h':IH):Prop:=∀(j:Nat)(ob:IX),j≠i0->h[j]?=Za ob->h'[j]?=Za ob
def Kp (h h':IH):Prop:=∀(j:Nat)(ob:IX),h[j]?=Za ob->h'[j]?=Za ob
theorem KpB.trans (p:KpB i0 a b)(q:KpB i0 b c):KpB i0 a c:=λ j ob n e=>q j ob n (p j ob n e)
theorem Kp.trans (p:Kp a b)(q:Kp b c):Kp a c:=λ j ob e=>q j ob (p j ob e)
theorem Kp.but (p:Kp a b):KpB i0 a b:=λ j ob _ e=>p j ob e
theorem Ex.kp (x:Ex a b):Kp a b:=λ _ _ e=>x.get e
theorem Jz1 {chk:IH->Prop}{e:E1}{caps:ISt}{D:IV->IV->IH->Prop}(i0:Nat)(mono:∀x y h2 h3,KpB i0 h2 h3->D x y h2->D x y h3):∀{xs acc:List IV}{o:Option IV}{h1:IH},h1[i0]?=Za (.lst acc)->(∀h2,KpB i0 h1 h2->chk h2)->acc.length+xs.length<sizeLine ->
  (∀x∈xs,∀h2:IH,KpB i0 h1 h2->i0<h2.length->WR (e (Za x::caps) h2) λ v h3=>Ex h2 h3/\D x v h3) ->
  WR (JQ chk (gNm 0) JF e i0 xs (o::caps) h1) λ v h3=>v=.ref i0/\∃ys,h3[i0]?=Za (.lst (acc++ys))/\ys.length=xs.length/\KpB i0 h1 h3/\∀(i:Nat) x y,xs[i]?=Za x->ys[i]?=Za y->D x y h3
 | [],acc,o,h1,hi,hc,_,_=>by
  unfold JQ
  rw[if_pos (hc h1 λ _ _ _ q=>q)]
  exact⟨rfl,[],by simpa using hi,rfl,λ _ _ _ q=>q,λ i x y q=>by simp at q⟩
 | x::xs,acc,o,h1,hi,hc,hl,he=>by
  unfold JQ
  rw[if_pos (hc h1 λ _ _ _ q=>q)]
  dsimp only[gNm,Zbw,JF]
  have hl':acc.length+xs.length+1<sizeLine:=by simpa [Zej] using hl
  obtain⟨v,h3,e3,x3,dv⟩:=(he x Z7 h1 (λ _ _ _ q=>q) (JC hi)).eq
  rw[e3]
  dsimp only
  rw[x3.get hi]
  dsimp only
  rw[if_pos (by omega)]
  have k34:KpB i0 h3 (h3.set i0 (.lst (acc++[v]))):=λ j ob n q=>by
   rw[ZI (ZQ n)];exact q
  have k14:KpB i0 h1 (h3.set i0 (.lst (acc++[v]))):=x3.kp.but.trans k34
  refine WR.mono (Jz1 i0 mono (acc:=acc++[v]) (by rw[ZL (JC (x3.get hi))]) (λ h4 q=>hc h4 (k14.trans q)) (by simp;omega) λ y hy h4 q=>he y (Zp _ hy) h4 (k14.trans q)) ?_
  rintro w h5 ⟨rfl,ys,g5,ln,k5,d5⟩
  refine⟨rfl,v::ys,by simpa using g5,by simp[ln],k14.trans k5,?_⟩
  intro i x' y' q1 q2
  cases i with
  | zero =>
   simp only[ZaA,ZaI] at q1 q2
   subst q1;subst q2
   exact mono _ _ _ _ (k34.trans k5) dv
  | succ i=>exact d5 i x' y' (by simpa using q1) (by simpa using q2)
theorem Jvq {h h0:IH}{it:I1}{e:E1}{js:List Nat}{xs:List IV}{chk:IH->Prop}(D:IV->IV->IH->Prop)(hit:WR (it σ h0) λ J h1=>J.xs=xs/\J.chk=chk/\h1=h)(hl:xs.length<sizeLine) 
  (mono:∀x y h2 h3,KpB h.length h2 h3->D x y h2->D x y h3)(hc:∀h2:IH,Kp h h2->chk h2)
  (he:∀x∈xs,∀h2:IH,Kp h h2->h.length<h2.length->WR (e (Za x::js.map λ j=>(σ[j]?).join) h2) λ v h3=>Ex h2 h3/\D x v h3) :
  WR (J0 it 1 js (gNm 0) JF e σ h0) λ v h3=>v=.ref h.length/\∃ys,h3[h.length]?=Za (.lst ys)/\ys.length=xs.length/\Kp h h3/\∀(i:Nat) x y,xs[i]?=Za x->ys[i]?=Za y->D x y h3:=by
 obtain⟨J,h1,e1,q1,q2,rfl⟩:=hit.eq
 unfold J0
 rw[e1]
 show WR (JQ J.chk (gNm 0) JF e h1.length J.xs (Zc::js.map λ j=>(σ[j]?).join) (h1++[.lst []])) _
 rw[q1,q2]
 have lift:∀{h2:IH},KpB h1.length (h1++[IX.lst []]) h2->Kp h1 h2:=λ q j ob r=>q j ob (Z5 (JC r)) (grow r)
 refine WR.mono (Jz1 h1.length mono (acc:=[]) Jk (λ h2 q=>hc h2 (lift q)) (by simpa using hl) λ x hx h2 q ln=>he x hx h2 (lift q) ln) ?_
 rintro v h3 ⟨rfl,ys,g3,ln,k3,d3⟩
 exact⟨rfl,ys,by simpa using g3,ln,lift k3,d3⟩
section
variable {h:IH}
theorem Jxn {g:G1}{t:T1}{e:E1}{caps:ISt}{p:IV->Bool}{f:IV->IV}{st:IV->ISt}(i0:Nat):∀{xs acc:List IV}{ls:ISt}{h1:IH},ls.length=n->h1[i0]?=Za (.lst acc)->(∀h2,(∀j ob,j≠i0->h1[j]?=Za ob->h2[j]?=Za ob)->chk h2)->acc.length+xs.length<sizeLine ->
  (∀x∈xs,∀(ls:ISt)(h2:IH),ls.length=n->(st x).length=n/\g x (ls++caps) h2=.next (st x++caps) h2) ->
  (∀x∈xs,∀h2,(∀j ob,j≠i0->h1[j]?=Za ob->h2[j]?=Za ob)->WR (t (st x++caps) h2) λ b h3=>b=p x/\Ex h2 h3) ->
  (∀x∈xs,p x=Zg->∀h2,(∀j ob,j≠i0->h1[j]?=Za ob->h2[j]?=Za ob)->WR (e (st x++caps) h2) λ v h3=>v=f x/\Ex h2 h3) ->
  WR (JQ chk g t e i0 xs (ls++caps) h1) λ v h3=>v=.ref i0/\∃g,h3=h1.set i0 (.lst (acc++(xs.filter p).map f))++g
 | [],acc,ls,h1,_,hi,hc,_,_,_,_=>by
  unfold JQ
  rw[if_pos (hc h1 λ _ _ _ q=>q)]
  refine⟨rfl,[],?_⟩
  simp only[List.filter_nil,Za6,Zaw]
  refine(Zb7 λ j=>?_)
  by_cases hj:j=i0
  ·subst hj
   rw[hi,ZL (JC hi)]
  ·rw[ZI (ZQ hj)]
 | x::xs,acc,ls,h1,hls,hi,hc,hl,hg,ht,he=>by
  unfold JQ
  rw[if_pos (hc h1 λ _ _ _ q=>q)]
  obtain⟨sl,eg1⟩:=hg x Z7 ls h1 hls
  rw[eg1]
  dsimp only
  have hl':acc.length+xs.length+1<sizeLine:=by simpa [Zej] using hl
  obtain⟨b,h2,e1,rfl,x2⟩:=(ht x Z7 h1 λ _ _ _ q=>q).eq
  rw[e1]
  have k12:∀j ob,j≠i0->h1[j]?=Za ob->h2[j]?=Za ob:=λ j ob _ q=>x2.get q
  cases hp:p x with
  | false =>
   dsimp only
   refine WR.mono (Jxn i0 sl (x2.get hi) (λ h3 q=>hc h3 λ j ob n r=>q j ob n (k12 j ob n r)) (by omega) (λ y hy=>hg y (Zp _ hy)) (λ y hy h3 q=>ht y (Zp _ hy) h3 λ j ob n r=>q j ob n (k12 j ob n r))
    λ y hy hpy h3 q=>he y (Zp _ hy) hpy h3 λ j ob n r=>q j ob n (k12 j ob n r)) λ v h3 ⟨ev,g,eg⟩=>⟨ev,?_⟩
   obtain⟨g2,rfl⟩:=x2
   refine⟨g2++g,?_⟩
   rw[eg,Zay (h:=JC hi)]
   simp[hp]
  | true =>
   dsimp only
   obtain⟨v,h3,e3,rfl,x3⟩:=(he x Z7 hp h2 k12).eq
   rw[e3]
   dsimp only
   rw[x3.get (x2.get hi)]
   dsimp only
   rw[if_pos (by omega)]
   have k13:∀j ob,j≠i0->h1[j]?=Za ob->(h3.set i0 (.lst (acc++[f x])))[j]?=Za ob:=λ j ob n q=>by
    rw[ZI (ZQ n)]
    exact x3.get (x2.get q)
   refine WR.mono (Jxn i0 (acc:=acc++[f x]) sl (by rw[ZL (JC (x3.get (x2.get hi)))]) (λ h4 q=>hc h4 λ j ob n r=>q j ob n (k13 j ob n r)) (by simp;omega) (λ y hy=>hg y (Zp _ hy)) (λ y hy h4 q=>ht y (Zp _ hy) h4 λ j ob n r=>q j ob n (k13 j ob n r))
    λ y hy hpy h4 q=>he y (Zp _ hy) hpy h4 λ j ob n r=>q j ob n (k13 j ob n r)) λ v h4 ⟨ev,g,eg⟩=>⟨ev,?_⟩
   obtain⟨g3,q3⟩:=x2.trans x3
   refine⟨g3++g,?_⟩
   rw[eg,q3,Zay (h:=JC hi),Zay (h:=by rw[Zbo];exact JC hi),ZdN]
   simp[hp]
theorem Jvr {g:G1}{t:T1}{e:E1}{js:List Nat}{p:IV->Bool}{f:IV->IV}{st:IV->ISt}{n:Nat}(hit:WR (it σ h0) λ J h1=>J.xs=xs/\J.chk=chk/\h1=h)(hl:xs.length<sizeLine) 
  (hc:∀h2:IH,(∀(j:Nat)(ob:IX),h[j]?=Za ob->h2[j]?=Za ob)->chk h2)
  (hg:∀x∈xs,∀(ls:ISt)(h2:IH),ls.length=n->(st x).length=n/\g x (ls++js.map λ j=>(σ[j]?).join) h2=.next (st x++js.map λ j=>(σ[j]?).join) h2)
  (ht:∀x∈xs,∀h2:IH,(∀(j:Nat)(ob:IX),h[j]?=Za ob->h2[j]?=Za ob)->WR (t (st x++js.map λ j=>(σ[j]?).join) h2) λ b h3=>b=p x/\Ex h2 h3)
  (he:∀x∈xs,p x=Zg->∀h2:IH,(∀(j:Nat)(ob:IX),h[j]?=Za ob->h2[j]?=Za ob)->WR (e (st x++js.map λ j=>(σ[j]?).join) h2) λ v h3=>v=f x/\Ex h2 h3) :
  WR (J0 it n js g t e σ h0) λ v h3=>v=.ref h.length/\∃g,h3=h++.lst ((xs.filter p).map f)::g:=by
 obtain⟨J,h1,e1,q1,q2,rfl⟩:=hit.eq
 unfold J0
 rw[e1]
 show WR (JQ J.chk g t e h1.length J.xs (ZS n Zc++js.map λ j=>(σ[j]?).join) (h1++[.lst []])) _
 rw[q1,q2]
 have lift:∀{h2:IH},(∀j ob,j≠h1.length->(h1++[IX.lst []])[j]?=Za ob->h2[j]?=Za ob)->∀j ob,h1[j]?=Za ob->h2[j]?=Za ob:=λ q j ob r=>q j ob (Z5 (JC r)) (grow r)
 refine WR.mono (Jxn (p:=p) (f:=f) (st:=st) h1.length (acc:=[]) (Zbz ..) Jk (λ h2 q=>hc h2 (lift q)) (by simpa using hl) hg (λ x hx h2 q=>ht x hx h2 (lift q)) λ x hx hp h2 q=>he x hx hp h2 (lift q)) λ v h3 ⟨ev,g,eg⟩=>⟨ev,g,?_⟩
 rw[eg]
 simp
end
def Jxc (ts:List Zm)(H:Hp):Prop:=∀b,H b=Zc∨(∃o xs,H b=Za (.frz o (.lst xs)))∨(b∈ts/\H b=Za (.tbl #[]))
theorem Jr7 {P:ZA}{w:ZW}{K:W.Frag}{mg mb:Str->Option Ze}{k:Nat}{fa a:Zm}{fd:ZaD}{x:Str}{sp:Sp}{s₁:Zl}{vs:List Ze}{ns:List Int}{ts:List Zm} 
  (KX:K.In s₁.heap)(hns:s₁.heap.Ns Zz mg)(hb:s₁.heap.Ns Zcs mb)(hbb:∀x:Str,x≠"__name__"->mb x=ZbY x)(hlim:s₁.heap.NoLimit)(hg:s₁.gens=#[])
  (ha:s₁.heap.get? a=Za { cls:=.type "list",data:=.seq vs.toArray })(hi:ZbA vs ns)(hl:ns.length<=sizeLine)(hr:Room k Zee)
  (hT:∀p∈ts,s₁.heap.get? p=Za (W.tabObj #[])/\isCodeTable s₁.heap p/\K.lookup p=Zc)
  (hbm:∃bm ob,mg "__builtins__"=Za (.ref bm)/\bm≠Zcs/\s₁.heap.get? bm=Za ob/\ob.cls=.type "module"/\ob.dict=Za Zcs/\ob.data=.plain)
  (F:∀base:Zas,K.In base->base.Ns Zz mg->Q9 mg base->FnOk P w K mg base (CXI P w) k fa fd [x] sp)(hbind:∀(s:Zl)(u:Ze),Zc7 s fd ⟨[u],[]⟩ [(x,u)])
  (hsp:∀H:Hp,Jxc ts H->SqL K H a (ns.map V.int)->(∀p∈ts,H p=Za (.tbl #[]))->sp [.ref a] H (λ v _=>v=.bl Zg) λ _ _ _=>False) :
  Zc4 (Z8 P w) Zee (.call (.ref fa) ⟨[.ref a],[]⟩) (λ r s'=>r=.ok (.ret (.bool Zg))/\OldK s₁.heap s'.heap/\s'.os=s₁.os/\Zdc s'.gens) s₁:=by
 have rv:=L2.XY hi
 have lenV:=hi.length
 have nta:a∉ts:=λ z=>by
  have e:=(hT a z).1
  rw[ha] at e
  have e':=Zaj e
  injection e' with h1
  cases h1
 have core:∀H:Hp,Jxc ts H->SqL K H a (ns.map V.int)->HOk P w H s₁.heap->(∀b,H b≠Zc->b=a∨b∈ts)->(H a≠Zc->K.lookup a=Zc)->(∀p∈ts,H p=Za (.tbl #[])) ->
   Zc4 (Z8 P w) Zee (.call (.ref fa) ⟨[.ref a],[]⟩) (λ r s'=>r=.ok (.ret (.bool Zg))/\OldK s₁.heap s'.heap/\s'.os=s₁.os/\Zdc s'.gens) s₁:=by
  intro H hO hS hok hA hK hTt
  have base_of:∀{b:Zm}{o:Obj},s₁.heap.get? b=Za o->H b=Zc->(hidT s₁.heap H).get? b=Za o:=λ e n=>Jt4 e n
  have noA:∀{b:Zm}{o:Obj},s₁.heap.get? b=Za o->(∀vs n,o.data≠.seq vs n)->(∀vs,o.data≠.fields vs)->H b=Zc:=λ {b o} e d1 d2=>by
   cases q:H b with
   | none=>rfl
   | some u =>
    rcases hA b (by rw[q];simp) with e'|e'
    ·subst e'
     rw[ha] at e;cases e
     exact absurd rfl (d1 _ _)
    ·rw[(hT b e').1] at e;cases e
     exact absurd rfl (d2 _)
  have nsK:∀{b:Zm}{m:Str->Option Ze},s₁.heap.Ns b m->(hidT s₁.heap H).Ns b m:=λ {b m} ⟨o,es,ep,e,d,r⟩=>⟨o,es,ep,base_of e (noA e (λ _ _ z=>by rw[d] at z;cases z) λ _ z=>by rw[d] at z;cases z),d,r⟩
  have hKb:K.In (hidT s₁.heap H):=λ b o e=>base_of (KX b o e) (by
   cases q:H b with
   | none=>rfl
   | some u =>
    rcases hA b (by rw[q];simp) with e'|e'
    ·subst e'
     rw[hK (by rw[q];simp)] at e;cases e
    ·rw[(hT b e').2.2] at e;cases e)
  have hM:Mod K mg (hidT s₁.heap H):=⟨hKb,nsK hns,⟨mb,nsK hb,hbb⟩,let ⟨mc,h1,h2⟩:=hlim;⟨mc,nsK h1,h2⟩⟩
  have hB:Q9 mg (hidT s₁.heap H):=by
   obtain⟨bm,ob,b1,b2,b3,b4,b5,b6⟩:=hbm
   refine⟨bm,ob,b1,b2,λ z=>?_,base_of b3 (noA b3 (λ _ _ z=>by rw[b6] at z;cases z) λ _ z=>by rw[b6] at z;cases z),b4,b5,b6⟩
   obtain⟨o,es,ep,e,d,_⟩:=hns
   rw[<- z,b3] at e
   cases e
   rw[b6] at d
   cases d
  have e0:Env0 P w K mg (hidT s₁.heap H) Zee [] s₁ H:=⟨rfl,hM,λ b o e=>Jyp e,Zc6 (Jrr _ _),trivial,λ b hb=>absurd (show b∈([]:List Zm) from hb) (by simp),hok,.of_eq hg⟩
  refine Zc9 ((F _ hKb (nsK hns) hB).run Zee [] s₁ H ⟨[.ref a],[]⟩ [.ref a] [.ref a] _ _ hr e0 (hbind s₁ (.ref a)) (.cons rfl .nil) (hsp H hO hS hTt)) λ r s' h=>?_
  cases r with
  | error e=>exact h.elim λ _ z=>z.2.2.2.2.elim
  | ok fl =>
   cases fl with
   | next=>exact Zbt h
   | brk=>exact Zbt h
   | cont=>exact Zbt h
   | ret u =>
    obtain⟨v,H',os,bare,un,hok',r',q⟩:=h
    have q':v=.bl Zg:=q
    subst q'
    obtain rfl:u=ZcH Zg:=r'
    have main:∀b o,s₁.heap.get? b=Za o->asItWas s₁.heap s'.heap b o/\∃o',s'.heap.get? b=Za o':=λ b o e=>by
     rcases hO b with z|⟨ob,xs,z⟩|⟨hb,z⟩
     ·have:=un.keep b o e z (by intro z;exact absurd (show b∈([]:List Zm) from z) (by simp)) (by simp)
      exact⟨.inl this,_,this⟩
     ·have z2:=un.frzs b ob _ z
      obtain⟨e1,_⟩:=hok b _ z
      obtain⟨e2,_⟩:=hok' b _ z2
      rw[e] at e1;cases e1
      exact⟨.inl e2,_,e2⟩
     ·obtain⟨more,z2⟩:=un.tbls b _ z
      have e2:=hok' b _ z2
      have e1:=(hT b hb).1
      rw[e] at e1
      cases e1
      exact⟨.inr (.inl ⟨(hT b hb).2.1,rfl,#[],more,rfl,e2⟩),_,e2⟩
    exact⟨rfl,⟨λ b o e=>(main b o e).1,λ b o e=>(main b o e).2⟩,os,bare⟩
 cases hk:K.lookup a with
 | some o =>
  have e:=KX a o hk
  rw[ha] at e
  cases e
  refine core (λ b=>if b∈ts then Za (.tbl #[]) else Zc) (λ b=>?_) (.inr ⟨_,vs.toArray,_,hk,rfl,rfl,rfl,by rw[Zu,lenV];exact hl,by simpa using rv⟩) (λ b u z=>?_) (λ b z=>?_) (λ z=>absurd (if_neg nta) z) λ p hp=>if_pos hp
  ·by_cases hb:b∈ts
   ·exact .inr (.inr ⟨hb,if_pos hb⟩)
   ·exact .inl (if_neg hb)
  ·by_cases hb:b∈ts
   ·have z':=(if_pos hb).symm.trans z
    cases z'
    exact(hT b hb).1
   ·have z':=(if_neg hb).symm.trans z
    cases z'
  ·by_cases hb:b∈ts
   ·exact .inr hb
   ·exact absurd (if_neg hb) z
 | none =>
  refine core (λ b=>if b=a then Za (.frz { cls:=.type "list",data:=.seq vs.toArray } (.lst (ns.map V.int))) else if b∈ts then Za (.tbl #[]) else Zc) (λ b=>?_) (.inl (.inr ⟨{ cls:=.type "list",data:=.seq vs.toArray },if_pos rfl⟩)) (λ b u z=>?_) (λ b z=>?_) (λ _=>hk) λ p hp=>?_
  ·by_cases hb:b=a
   ·exact .inr (.inl ⟨_,_,if_pos hb⟩)
   ·by_cases hc:b∈ts
    ·exact .inr (.inr ⟨hc,(if_neg hb).trans (if_pos hc)⟩)
    ·exact .inl ((if_neg hb).trans (if_neg hc))
  ·by_cases hb:b=a
   ·have z':=(if_pos hb).symm.trans z
    cases z'
    subst hb
    exact⟨ha,by rw[Zi];exact hl,vs,_,rv,ha⟩
   ·by_cases hc:b∈ts
    ·have z':=((if_neg hb).trans (if_pos hc)).symm.trans z
     cases z'
     exact(hT b hc).1
    ·have z':=((if_neg hb).trans (if_neg hc)).symm.trans z
     cases z'
  ·by_cases hb:b=a
   ·exact .inl hb
   ·by_cases hc:b∈ts
    ·exact .inr hc
    ·exact absurd ((if_neg hb).trans (if_neg hc)) z
  ·have hb:p≠a:=λ z=>nta (z▸hp)
   exact(if_neg hb).trans (if_pos hp)
def Jtr (o:Obj)(q:Str):Bool:=match o with
 | ⟨_,_,.fields vs,_⟩=>(match vs.toList with|_::.str n _::_=>n==q|_=>Zj)
 | _=>Zj
def QZ (K:W.Frag)(q:Str)(p:Zm):Bool:=(K.lookup p).isNone&&K.all (λ e=>!(Jtr e.2 q)||W.codeHdIn K e.1 p)&&K.any (λ e=>Jtr e.2 q&&W.codeHdIn K e.1 p)
def Ve (K:W.Frag):List Str->List Zm->Bool
 | [],[]=>Zg
 | q::qs,p::ps=>QZ K q p&&!ps.contains p&&Ve K qs ps
 | _,_=>Zj
theorem Jp7 {K:W.Frag}(h:K.lookup c=Za o):(c,o)∈K:=by
 induction K with
 | nil=>cases h
 | cons p K ih =>
  obtain⟨b,o'⟩:=p
  rw[Zae] at h
  split at h
  ·rename_i e
   cases h
   rw[beq_iff_eq.mp e]
   exact Z7
  ·exact Zp _ (ih h)
theorem QZ.code {K:W.Frag}{q:Str}{p:Zm}(h:QZ K q p=Zg):∀cdv,W.codeIn K cdv q=Zg->∃c,cdv=.ref c/\W.codeHdIn K c p=Zg:=by
 simp only[QZ,Zq,Zbf,Za1,ZaH] at h
 intro cdv e
 unfold W.codeIn at e
 split at e
 ·rename_i c
  refine⟨c,rfl,?_⟩
  cases hk:K.lookup c with
  | none=>rw[hk] at e;cases e
  | some o =>
   rw[hk] at e
   rcases h.1.2 _ (Jp7 hk) with z|z
   ·exfalso
    have e':Jtr o q=Zg:=by
     obtain⟨oc,od,dt,sl⟩:=o
     cases dt<;>first|exact e|cases e
    have z':Jtr o q=Zj:=z
    rw[e'] at z'
    cases z'
   ·exact z
 ·cases e
theorem QZ.some {K:W.Frag}{q:Str}{p:Zm}(h:QZ K q p=Zg):K.lookup p=Zc/\∃c,W.codeHdIn K c p=Zg:=by
 simp only[QZ,Zq,List.any_eq_true,Option.isNone_iff_eq_none] at h
 obtain⟨⟨h1,_⟩,e,_,h2⟩:=h
 exact⟨h1,e.1,h2.2⟩
theorem Ve.mem {K:W.Frag}:∀{qs:List Str}{ts:List Zm},Ve K qs ts=Zg->ts.Nodup/\qs.length=ts.length/\(∀(i:Nat)(q:Str),qs[i]?=Za q->∃p,ts[i]?=Za p/\QZ K q p=Zg)/\∀p∈ts,∃q,QZ K q p=Zg
 | [],[],_=>⟨.nil,rfl,λ i q e=>by simp at e,λ p hp=>by cases hp⟩
 | q::qs,p::ps,h=>by
  simp only[Ve,Zq,ZaH,List.contains_eq_mem,decide_eq_false_iff_not] at h
  obtain⟨⟨h1,h2⟩,h3⟩:=h
  obtain⟨a,b,c,d⟩:=Ve.mem h3
  refine⟨Zco.mpr ⟨h2,a⟩,by simp[b],λ i r e=>?_,λ r hr=>?_⟩
  ·cases i with
   | zero =>
    have e':Za q=Za r:=e
    cases e'
    exact⟨p,rfl,h1⟩
   | succ i=>exact c i r e
  ·rcases Z6.mp hr with rfl|hr
   ·exact⟨q,h1⟩
   ·exact d r hr
 | [],_::_,h=>by cases h
 | _::_,[],h=>by cases h
theorem Jp5 {K:W.Frag}{x:Str}{f:List IV->IH->Res IV}{H:Hp}{a:Zm}{ns:List Int}{qs:List Str}{ts:List Zm}(hO:Jxc ts H)(hS:SqL K H a (ns.map V.int))(hT:∀p∈ts,H p=Za (.tbl #[]))(hc:Ve K qs ts=Zg)
  (hf:∃h',f [.rol (ns.map IV.int)] (qs.map IX.tab)=.ok (.bl Zg) h'):XT K x f [.ref a] H (λ v _=>v=.bl Zg) λ _ _ _=>False:=by
 intro ce
 obtain⟨h',hf⟩:=hf
 have sr:SqR K H a (ns.map V.int):=by
  rcases hS with(h|⟨o,h⟩)|h
  ·rcases hO a with z|⟨ob,xs,z⟩|⟨_,z⟩
   ·rw[z] at h;cases h
   ·rw[z] at h;cases h
   ·rw[z] at h;cases h
  ·exact .inl ⟨o,h⟩
  ·exact .inr h
 obtain⟨nd,le,at_,_⟩:=Ve.mem hc
 refine⟨rfl,ts,qs.map IX.tab,[.rol (ns.map IV.int)],⟨by simp[le],nd,λ i o e=>?_⟩,⟨.ref a,[],rfl,⟨a,_,rfl,sr,RVs.ints ns⟩,rfl⟩,?_⟩
 ·rw[Zv] at e
  cases eq:qs[i]? with
  | none=>rw[eq] at e;cases e
  | some q =>
   rw[eq] at e
   cases e
   obtain⟨p,ep,hp⟩:=at_ i q eq
   exact⟨p,ep,QZ.code hp,#[],hT p (ZbV ep),trivial,λ pos cv z=>by cases z⟩
 ·rw[hf]
  intro v H' ι' _ _ q
  exact q
theorem Jvn {l:W.OpenLaw}{n k:Nat}{q:ZA}{loose:List Str}{XP:(Str->Option Ze)->Zas->Prop}{YP:ZW->Zas->Prop}{d:DefRec}{K:Params->W.Frag}{f:List IV->IH->Res IV}{x:Str}{qs:List Str}{ts:List Zm}
  (hn:l.most=Za n)(hn2:n<=sizeLine)(hdf:d.params.defaults=[])(hr:Room k Zee)
  (hY:∀(w:ZW)(h:Zas),YP w h->(K w.params).In h/\∀p∈ts,h.get? p=Za (W.tabObj #[]))(hc:∀w:ZW,Ve (K w.params) qs ts=Zg)
  (F:∀(w:ZW)(mg:Str->Option Ze)(fa:Zm)(h:Zas),(K w.params).In h->h.Ns Zz mg->mg d.name=Za (.ref fa) ->
   ∃fd:ZaD,(∀(s:Zl)(u:Ze),Zc7 s fd ⟨[u],[]⟩ [(x,u)]) /\
    ∀base:Zas,(K w.params).In base->base.Ns Zz mg->Q9 mg base->FnOk l.prog w (K w.params) mg base (CXI l.prog w) k fa fd [x] (XT (K w.params) x f))
  (hf:∀ns:List Int,ns.length<=n->∃h',f [.rol (ns.map IV.int)] (qs.map IX.tab)=.ok (.bl Zg) h') :
  W.WalkO q loose XP YP l.row.toRowW d [] (λ f vs=>PySem.call f vs):=by
 refine Att.attach_call hn hdf λ w s₀ s₁ mg mb fa o pm cd doc a vs ns G Y ho hd hcd hmg hobj hints hlen hg=>?_
 obtain⟨KX,hT⟩:=hY w _ Y
 obtain⟨fd,hb,hF⟩:=F w mg fa _ KX G.T.g hmg
 refine Jr7 KX G.T.g G.T.b G.T.builtins G.T.nolimit hg hobj hints (ZY hlen hn2) hr (λ p hp=>?_) G.T.bmain hF hb λ H hO hS hTt=>Jp5 hO hS hTt (hc w) (hf ns hlen)
 obtain⟨q,hq⟩:=(Ve.mem (hc w)).2.2.2 p hp
 obtain⟨h1,c,h2⟩:=QZ.some hq
 exact⟨hT p hp,((W.codeHd_of_K KX h2).tab (hT p hp)).isCodeTable,h1⟩
section
variable {α β:Type}{σ:ISt}{h:IH}
variable {Q:α->IH->Prop}{Z:Nat->IH->Prop}{N:ISt->IH->Prop}{R:IV->IH->Prop}{Y:Nat->ISt->IH->Prop}
theorem Jzs {Q:IV->IH->Prop}(x:Str)(lo hi:Option Int):WR (slT (.str x) lo hi h) Q=(x.length<=sizeLine/\Q (.str (Zef x lo hi)) h):=by
 unfold slT;by_cases z:x.length<=sizeLine<;>simp[WR,z]
end
theorem Jh2:∀{a b c:List Int},ltL a b=Zg->ltL b c=Zg->ltL a c=Zg
 | a::as,b::bs,c::cs,h1,h2=>by
  unfold ltL at h1 h2 ⊢
  by_cases e1:a=b
  ·rw[if_pos e1] at h1
   subst e1
   by_cases e2:a=c
   ·rw[if_pos e2] at h2 ⊢
    exact Jh2 h1 h2
   ·rw[if_neg e2] at h2 ⊢
    exact h2
  ·rw[if_neg e1,decide_eq_true_eq] at h1
   by_cases e2:b=c
   ·subst e2
    rw[if_neg e1,decide_eq_true_eq]
    exact h1
   ·rw[if_neg e2,decide_eq_true_eq] at h2
    rw[if_neg (by omega),decide_eq_true_eq]
    omega
 | [],_,_,h,_=>by simp[ltL] at h
 | _::_,[],_,h,_=>by simp[ltL] at h
 | _::_,_::_,[],_,h=>by simp[ltL] at h
theorem Yv:∀a:List Int,ltL a a=Zj
 | []=>rfl
 | a::as=>by
  unfold ltL
  rw[if_pos rfl]
  exact Yv as
theorem Joj {as bs:List Int}(h:as.length=bs.length):ltT (.tup (as.map .int)) (.tup (bs.map .int))=Za (ltL as bs):=by
 unfold ltT
 dsimp only
 rw[V8,V8]
 dsimp only
 rw[if_pos h]
section
variable {mk:IV->IH->Res IV}{kf:IV->List Int}{i n:Nat}{ys:List IV}
theorem Jf8 (hi:h0[i]?=Za (.lst ys))(hm:∀y∈ys,∀h,Ex h0 h->WR (mk y h) λ v h'=>v=.tup ((kf y).map .int)/\Ex h h')(hl:∀y∈ys,(kf y).length=n) :
  ∀(r:Nat)(b:IV)(h:IH),Ex h0 h->r<ys.length->b∈ys->(∀y∈ys.take (ys.length-r),ltL (kf y) (kf b)=Zj)->WR (Vm ltT mk i ys.length r b (.tup ((kf b).map .int)) h) λ v h'=>v∈ys/\(∀y∈ys,ltL (kf y) (kf v)=Zj)/\Ex h h'
 | 0,b,h,x,_,hb,q=>by
  unfold Vm
  rw[x.get hi]
  dsimp only
  rw[if_pos rfl]
  rw[Nat.sub_zero,List.take_length] at q
  exact⟨hb,q,.refl _⟩
 | r+1,b,h,x,hr,hb,q=>by
  unfold Vm
  rw[x.get hi]
  dsimp only
  rw[if_pos rfl]
  have hlt:ys.length-(r+1)<ys.length:=by omega
  rw[Zb hlt]
  dsimp only
  have hy:=Z3 hlt
  have ht:ys.take (ys.length-r)=ys.take (ys.length-(r+1))++[ys[ys.length-(r+1)]]:=by
   rw[<- Zai hlt,show ys.length-(r+1)+1=ys.length-r by omega]
  generalize ys[ys.length-(r+1)]=y at hy ht
  obtain⟨v,h2,e,rfl,x2⟩:=(hm y hy h x).eq
  rw[e]
  show WR (match ltT (.tup ((kf y).map .int)) (.tup ((kf b).map .int)) with|some Zg=>_|some Zj=>_|none=>_) _
  rw[Joj (by rw[hl y hy,hl b hb])]
  cases c:ltL (kf y) (kf b) with
  | true =>
   refine WR.mono (Jf8 hi hm hl r y h2 (x.trans x2) (by omega) hy λ z hz=>?_) λ v h' ⟨a,d,g⟩=>⟨a,d,x2.trans g⟩
   rw[ht] at hz
   rcases ZM.mp hz with hz|hz
   ·cases zc:ltL (kf z) (kf y) with
    | false=>rfl
    | true=>exact absurd (Jh2 zc c) (by rw[q z hz];exact Zs)
   ·rw[Zy.mp hz]
    exact Yv _
  | false =>
   refine WR.mono (Jf8 hi hm hl r b h2 (x.trans x2) (by omega) hb λ z hz=>?_) λ v h' ⟨a,d,g⟩=>⟨a,d,x2.trans g⟩
   rw[ht] at hz
   rcases ZM.mp hz with hz|hz
   ·exact q z hz
   ·rw[Zy.mp hz]
    exact c
theorem Jth (hi:h[i]?=Za (.lst ys))(ne:ys≠[])(hm:∀y∈ys,∀h',Ex h h'->WR (mk y h') λ v h2=>v=.tup ((kf y).map .int)/\Ex h' h2)(hl:∀y∈ys,(kf y).length=n) :
  WR (X8 ltT mk i h) λ v h'=>v∈ys/\(∀y∈ys,ltL (kf y) (kf v)=Zj)/\Ex h h':=by
 unfold X8
 rw[hi]
 dsimp only
 cases ys with
 | nil=>exact absurd rfl ne
 | cons y r =>
  obtain⟨v,h2,e,rfl,x2⟩:=(hm y Z7 h (.refl _)).eq
  show WR ((mk y h).nx.bind λ k h'=>Vm ltT mk i (y::r).length ((y::r).length-1) y k h') _
  rw[e]
  refine WR.mono (Jf8 (kf:=kf) (x2.get hi) (λ z hz h' x=>hm z hz h' (x2.trans x)) hl ((y::r).length-1) y h2 (.refl _) (by simp) Z7 λ z hz=>?_) λ v h' ⟨a,d,g⟩=>⟨a,d,x2.trans g⟩
  rw[show(y::r).length-((y::r).length-1)=1 by simp,List.take_succ_cons,List.take_zero,Zy] at hz
  rw[hz]
  exact Yv _
theorem Jzr {js:List Nat}{m:E1}{Q:IV->IH->Prop}(hj:h[j]?=Za (.tab q))(hi:σ[i]?=Za (Za (.ref a))) :
  WR (X4 ltT q j js (Jb (Ja i) Jd) m σ h) Q=WR (X8 ltT (λ v h'=>m (Za v::js.map λ j=>(σ[j]?).join) h') a h) Q:=by
 have e:Jb (Ja i) Jd σ h=.ok [.ref a] h:=by
  unfold Jb Ja Jd
  rw[hi]
  rfl
 unfold X4
 rw[e]
 show WR (match h[j]? with|some (.tab q')=>_|_=>_) Q=_
 rw[hj]
 dsimp only
 rw[if_pos rfl]
end
end L4
namespace LW
theorem Kaz {α:Sort _}{p:α->Prop}{a':α}:(∃a,a'=a/\p a)↔p a':=exists_eq_left'
theorem Kbz {α:Sort _}{p:α->Prop}{a':α}:(∃a,a=a'/\p a)↔p a':=exists_eq_left
theorem Kcz (a b:Bool):(L3.IV.bl a=L3.IV.bl b)=(a=b):=L3.IV.bl.injEq a b
theorem Kdz (a b:Int):(L3.IV.int a=L3.IV.int b)=(a=b):=L3.IV.int.injEq a b
theorem Kez (a b:Nat):(L3.IV.ref a=L3.IV.ref b)=(a=b):=L3.IV.ref.injEq a b
theorem Kfz (a b:PySem.Str):(L3.IV.str a=L3.IV.str b)=(a=b):=L3.IV.str.injEq a b
theorem Kgz (a b:List L3.IV):(L3.IV.tup a=L3.IV.tup b)=(a=b):=L3.IV.tup.injEq a b
theorem Khz (a b:List L3.IV):(L3.IX.lst a=L3.IX.lst b)=(a=b):=L3.IX.lst.injEq a b
theorem Kiz {α:Type _}(a b:α):(Za a=Za b)=(a=b):=ZaI a b
theorem Kjz:(!true)=Zj:=Zcl
theorem Kkz:(!false)=Zg:=ZbW
theorem Klz:(Zg=Zj)=False:=Zbx
theorem Kmz:(Zj=Zg)=False:=Zaa
theorem Knz {α β:Type _}(a:α)(f:α->Option β):(Za a).bind f=f a:=ZbH a f
theorem Koz (p:Prop):(True->p)=p:=true_implies p
theorem Kpz (p:Prop):(False->p)=True:=false_implies p
theorem Kqz (α:Sort _):(α->True)=True:=implies_true α
theorem Krz {α:Type _}{a b:α}{l:List α}{n:Nat}:(a::l).set (n+1) b=a::l.set n b:=Zct
theorem Ksz {α:Type _}{a b:α}{l:List α}:(a::l).set 0 b=b::l:=Zbw
theorem Ktz {α:Type _}{a:α}{l m:List α}:(a::l)++m=a::(l++m):=ZU
theorem Kuz {α:Type _}(l:List α):[]++l=l:=Zag l
theorem Kvz {α:Type _}(l:List α):l++[]=l:=Zaw l
end LW
namespace LW
open PySem L2 L3 L4
noncomputable def top (i:Nat):Zdi:=PySem.Challenge.pw_dutyproof_k34_whole_run_by_an_order.main.body.getD i (.Pass ⟨0,0,0,0⟩)
def Jde:D4:=⟨top 9,"is_whole",["thing"],["thing"],[]⟩
def Jal:D4:=⟨top 10,"is_whole_from",["thing","least"],["thing","least"],[]⟩
def Jcf:D4:=⟨top 11,"rounds_up",["top","bottom"],["top","bottom"],[]⟩
def Jjv:D4:=⟨top 18,"ready",["coming"],["coming"],[]⟩
def Jgv:D4:=⟨top 19,"due_at",["duty","coming"],["duty","coming"],[]⟩
def Jb4:D4:=⟨top 20,"is_coming",["duty","thing"],["duty","thing","work"],[]⟩
def Jaz:D4:=⟨top 21,"first_wrong",["duty","row"],["duty","row","last_come","place","coming","at"],[]⟩
def Jfb:D4:=⟨top 22,"checked",["duty","row"],["duty","row","wrong"],[]⟩
def Jfd:D4:=⟨top 29,"is_name",["thing"],["thing"],[]⟩
def Jfc:D4:=⟨top 30,"is_hold",["hold","length"],["hold","length"],[]⟩
def Jcb:D4:=⟨top 31,"lie_apart",["one","other"],["one","other"],[]⟩
def Jfg:D4:=⟨top 32,"lies_in",["one","other"],["one","other"],[]⟩
def Ja0:D4:=⟨top 33,"go_together",["one","other"],["one","other"],[]⟩
def Jad:D4:=⟨top 34,"all_go_together",["holds"],["holds","place","hold"],[]⟩
def Jcd:D4:=⟨top 35,"own_holds",["holds","length"],["holds","length"],[]⟩
def Jfh:D4:=⟨top 36,"own_due",["due","gap"],["due","gap"],[]⟩
def Qu:D4:=⟨JO (top 37) 0,"Work.__init__",["self","name","gap","length","due","late","holds"],["self","name","gap","length","due","late","holds"],[.non,.int 0,.non]⟩
def Jb3:D4:=⟨JO (top 37) 1,"Work.held",["self"],["self"],[]⟩
def Jcc:D4:=⟨top 41,"next_stop",["work","done","length"],["work","done","length"],[]⟩
def Jbb:D4:=⟨JO (top 42) 0,"Bench.__init__",["self","order","row"],["self","order","row"],[]⟩
def Jaa:D4:=⟨JO (top 42) 1,"Bench.next_ready",["self"],["self"],[]⟩
def Jap:D4:=⟨JO (top 42) 2,"Bench.let_in",["self"],["self"],[]⟩
def Jac:D4:=⟨JO (top 42) 3,"Bench.turns_for",["self","place"],["self","place","coming","done","turns"],[]⟩
def Jbc:D4:=⟨JO (top 42) 4,"Bench.tell",["self","place","until"],["self","place","until","begin"],[]⟩
def Jax:D4:=⟨JO (top 42) 5,"Bench.go_on",["self"],["self","place","turns"],[]⟩
def Jtt:D4:=⟨top 43,"run",["order","row"],["order","row","bench"],[]⟩
def Jce:D4:=⟨top 47,"own_works",["works"],["works"],[]⟩
def Jdd:D4:=⟨top 48,"crowd_of",["works"],["works","greatest"],[]⟩
def Jb0:D4:=⟨JO (top 49) 0,"Duty.__init__",["self","works"],["self","works"],[]⟩
def Jb1:D4:=⟨JO (top 49) 1,"Duty.size",["self"],["self"],[]⟩
def Jb2:D4:=⟨JO (top 49) 2,"Duty.work",["self","at"],["self","at"],[]⟩
def Jc7:D4:=⟨JO (top 49) 4,"Duty.crowd",["self"],["self"],[]⟩
def Jdc:D4:=⟨top 51,"ceilings",["duty"],["duty","found","at","hold"],[]⟩
def Jar:D4:=⟨top 52,"refuse_holds",["duty"],["duty"],[]⟩
def Ja2:D4:=⟨top 53,"things_held",["work","done"],["work","done"],[]⟩
def Jgw:D4:=⟨top 54,"lifted",["at","things","tops"],["at","things","tops"],[]⟩
def Jbe:D4:=⟨JO (top 56) 0,"Order.__init__",["self","duty"],["self","duty"],[]⟩
def Ja9:D4:=⟨JO (top 56) 1,"Order.rank_of",["self","coming","done"],["self","coming","done"],[]⟩
def VS:D4:=⟨JO (top 56) 2,"Order.holds",["self","coming","done"],["self","coming","done"],[]⟩
def Vj:D4:=⟨JO (top 56) 3,"Order.pick",["self","row","waiting","dones"],["self","row","waiting","dones"],[]⟩
def Vk:D4:=⟨JO (top 56) 4,"Order.standing",["self","coming","done"],["self","coming","done"],[]⟩
def Jay:D4:=⟨JO (top 57) 0,"ByRank.__init__",["self","duty"],["self","duty"],[]⟩
def Jaf:D4:=⟨JO (top 57) 1,"ByRank.rank_of",["self","coming","done"],["self","coming","done"],[]⟩
def Jaq:D4:=⟨JO (top 57) 2,"ByRank.holds",["self","coming","done"],["self","coming","done"],[]⟩
def Jbd:D4:=⟨JO (top 58) 0,"ByDue.__init__",["self","duty"],["self","duty"],[]⟩
def Jak:D4:=⟨JO (top 58) 1,"ByDue.rank_of",["self","coming","done"],["self","coming","done"],[]⟩
def Jaj:D4:=⟨JO (top 59) 0,"ByComing.__init__",["self","duty"],["self","duty"],[]⟩
def Jab:D4:=⟨JO (top 59) 1,"ByComing.rank_of",["self","coming","done"],["self","coming","done"],[]⟩
def Ja1:D4:=⟨top 61,"_law_cell_at",["_law_script","_law_k"],["_law_script","_law_k"],[]⟩
def Jbf:D4:=⟨top 62,"_law_stream",["_law_cell","_law_many"],["_law_cell","_law_many","_law_found","_law_rest","_law_k","_law_number"],[]⟩
def Jdh:D4:=⟨top 63,"_law_word",["_law_cell","_law_k"],["_law_cell","_law_k","_law_letters","_law_size","_law_word_here","_law_at"],[]⟩
def Jb6:D4:=⟨top 64,"_law_holds",["_law_xs","_law_length","_law_words"],["_law_xs","_law_length","_law_words","_law_p","_law_one","_law_turn","_law_other","_law_third","_law_some_here"],[]⟩
def Jb8:D4:=⟨top 65,"_law_plain",["_law_cell","_law_unit","_law_words","_law_many"],["_law_cell","_law_unit","_law_words","_law_many","_law_xs","_law_gap","_law_due","_law_late","_law_length","_law_holds_here"],[]⟩
def Jdg:D4:=⟨top 66,"_law_some",["_law_script","_law_held"],["_law_script","_law_held","_law_first_here","_law_unit","_law_second","_law_many","_law_words","_law_some_here","_law_k","_law_plain_here"],[]⟩
def Jff:D4:=⟨top 67,"_law_row",["_law_cells","_law_some_here"],["_law_cells","_law_some_here","_law_row_here","_law_last","_law_base","_law_cell","_law_xs","_law_at","_law_name","_law_gap","_law_length","_law_due","_law_late","_law_holds_here","_law_wait","_law_come"],[]⟩
def Jb7:D4:=⟨top 68,"_law_order",["_law_kind","_law_some_here"],["_law_kind","_law_some_here","_law_duty"],[]⟩
def Jdf:D4:=⟨top 69,"_law_lows",["_law_some_here"],["_law_some_here","_law_lows_here","_law_at","_law_one","_law_thing","_law_start","_law_end"],[]⟩
def Jfe:D4:=⟨top 70,"_law_key",["_law_kind","_law_some_here","_law_lows_here","_law_coming","_law_done","_law_place"],["_law_kind","_law_some_here","_law_lows_here","_law_coming","_law_done","_law_place","_law_at","_law_come","_law_late","_law_length","_law_held"],[]⟩
def Jca:D4:=⟨top 71,"_law_waits",["_law_row_here","_law_dones","_law_turn"],["_law_row_here","_law_dones","_law_turn"],[]⟩
def Jb9:D4:=⟨top 72,"_law_turns",["_law_some_here","_law_row_here","_law_done","_law_stretch"],["_law_some_here","_law_row_here","_law_done","_law_stretch","_law_place","_law_begin","_law_until","_law_turns_here","_law_coming","_law_thing","_law_start","_law_end"],[]⟩
def Jb5:D4:=⟨top 73,"_law_first",["_law_kind","_law_some_here","_law_row_here","_law_dones","_law_stretch"],["_law_kind","_law_some_here","_law_row_here","_law_dones","_law_stretch","_law_lows_here","_law_place","_law_begin","_law_until","_law_turn","_law_now","_law_mine","_law_k","_law_other"],[]⟩
def QT:D4:=⟨top 74,"law",["_law_script"],["_law_script","_law_kind","_law_some_here","_law_cells","_law_row_here","_law_dones","_law_last","_law_stretch","_law_place","_law_begin","_law_until"],[]⟩
def T:Tab where
 fns:=[(("is_whole":Str),Jde),(("is_whole_from":Str),Jal),(("rounds_up":Str),Jcf),(("ready":Str),Jjv),(("due_at":Str),Jgv),(("is_coming":Str),Jb4),(("first_wrong":Str),Jaz),(("checked":Str),Jfb),(("is_name":Str),Jfd),(("is_hold":Str),Jfc),(("lie_apart":Str),Jcb),(("lies_in":Str),Jfg),(("go_together":Str),Ja0),(("all_go_together":Str),Jad),(("own_holds":Str),Jcd),(("own_due":Str),Jfh),(("next_stop":Str),Jcc),(("run":Str),Jtt),(("own_works":Str),Jce),(("crowd_of":Str),Jdd),(("ceilings":Str),Jdc),(("refuse_holds":Str),Jar),(("things_held":Str),Ja2),(("lifted":Str),Jgw),(("_law_cell_at":Str),Ja1),(("_law_stream":Str),Jbf),(("_law_word":Str),Jdh),(("_law_holds":Str),Jb6),(("_law_plain":Str),Jb8),(("_law_some":Str),Jdg),(("_law_row":Str),Jff),(("_law_order":Str),Jb7),(("_law_lows":Str),Jdf),(("_law_key":Str),Jfe),(("_law_waits":Str),Jca),(("_law_turns":Str),Jb9),(("_law_first":Str),Jb5),(("law":Str),QT)]
 clss:=[("Work",Qu),("Bench",Jbb),("Duty",Jb0),("Order",Jbe),("ByRank",Jay),("ByDue",Jbd),("ByComing",Jaj)]
 meths:=[("Work",([("held",Jb3)]:List (Str×D4))),("Bench",([("next_ready",Jaa),("let_in",Jap),("turns_for",Jac),("tell",Jbc),("go_on",Jax)]:List (Str×D4))),("Duty",([("size",Jb1),("work",Jb2),("crowd",Jc7)]:List (Str×D4))),("Order",([("rank_of",Ja9),("holds",VS),("pick",Vj),("standing",Vk)]:List (Str×D4))),("ByRank",([("rank_of",Jaf),("holds",Jaq),("pick",Vj),("standing",Vk)]:List (Str×D4))),("ByDue",([("rank_of",Jak),("holds",VS),("pick",Vj),("standing",Vk)]:List (Str×D4))),("ByComing",([("rank_of",Jab),("holds",VS),("pick",Vj),("standing",Vk)]:List (Str×D4)))]
 cons:=[("MOST_COMINGS",.int 200),("AT",.int 0),("COME",.int 1),("LATE",.int 2),("LENGTH",.int 3),("MOST_LETTERS",.int 8),("MOST_HOLDS",.int 6),("THING",.int 0),("START",.int 1),("END",.int 2),("PLACE",.int 0),("FROM",.int 1),("MOST_WORKS",.int 12),("MOST_CROWD",.int 80)]
 isas:=[("Work",["Work"])]
 flds:=["append","dones","due","duty","gap","hold_tuples","join","late","later","length","name","order","place","pop","remove","row","setdefault","stretches","tops","turn","waiting","works"]
 frees:=["all","bool","enumerate","int","isinstance","len","list","max","min","range","set","sorted","str","sum","tuple"]
 tabs:=["Order.pick","Bench.__init__"]
 bass:=["Order"]
abbrev pg (k:Nat):Pg:=mkPg T (run T k)
section
variable (k:Nat)(x0 x1 x2 x3 x4 x5 x6:IV)(h:IH)
abbrev Jc9:=run T k Jde
abbrev V1:=run T k Jal
abbrev Jd7:=run T k Jcf
abbrev Jje:=run T k Jjv
abbrev Jjc:=run T k Jgv
abbrev Jdz:=run T k Jb4
abbrev Jbv:=run T k Jaz
abbrev Jg8:=run T k Jfb
abbrev Jef:=run T k Jfd
abbrev Jg9:=run T k Jfc
abbrev Jd4:=run T k Jcb
abbrev Jeh:=run T k Jfg
abbrev Jbw:=run T k Ja0
abbrev Jan:=run T k Jad
abbrev Yg:=run T k Jcd
abbrev Yf:=run T k Jfh
abbrev Jbu:=run T k Qu
abbrev Jdy:=run T k Jb3
abbrev Jd5:=run T k Jcc
abbrev Jcm:=run T k Jbb
abbrev Jag:=run T k Jaa
abbrev Jbi:=run T k Jap
abbrev Jam:=run T k Jac
abbrev Jcn:=run T k Jbc
abbrev Jbr:=run T k Jax
abbrev Jxb:=run T k Jtt
abbrev Jd6:=run T k Jce
abbrev Jfr:=run T k Jdd
abbrev Jbt:=run T k Jb0
abbrev Jdw:=run T k Jb1
abbrev Jdx:=run T k Jb2
abbrev Yc:=run T k Jdc
abbrev Jao:=run T k Jar
abbrev Jaw:=run T k Ja2
abbrev Jjd:=run T k Jgw
abbrev Ya:=run T k Jbe
abbrev Jav:=run T k VS
abbrev X1:=run T k Vj
abbrev Yb:=run T k Vk
abbrev Jbs:=run T k Jay
abbrev Jat:=run T k Jaf
abbrev Jbj:=run T k Jaq
abbrev Jco:=run T k Jbd
abbrev Ja5:=run T k Jak
abbrev Ja4:=run T k Jaj
abbrev Jah:=run T k Jab
abbrev VL:=run T k Ja1
abbrev Yd:=run T k Jbf
abbrev Jda:=run T k Jdh
abbrev Jd0:=run T k Jb6
abbrev Jd2:=run T k Jb8
abbrev Jft:=run T k Jdg
abbrev Jha:=run T k Jff
abbrev Jd1:=run T k Jb7
abbrev Jfs:=run T k Jdf
abbrev Jeg:=run T k Jfe
abbrev Ye:=run T k Jca
abbrev Jd3:=run T k Jb9
abbrev Jbx:=run T k Jb5
abbrev X2:=run T k QT
def Jky (k:Nat):S1:=(Jj (eAnd (eIsi VO (Ja 0)) (eUn (XF tru) (eIsi VN (Ja 0))) tru))
theorem Jna:Jc9 (k+1) [x0] h=(Jky k [Za x0] h).fin:=by kernel_rfl
def Jbo:S1:=(Jj (eAnd (Jm (Jc9 k) [] (Jb (Ja 0) Jd)) (Jc cGe (Ja 0) (Ja 1)) tru))
theorem Jgo:V1 (k+1) [x0,x1] h=(Jbo k [Za x0,Za x1] h).fin:=by kernel_rfl
def Je7 (k:Nat):S1:=(Jj (Jc JI (Jc JZ (Jc Jl (Ja 0) (Ja 1)) (eC (.int 1))) (Ja 1)))
theorem Jlz:Jd7 (k+1) [x0,x1] h=(Je7 k [Za x0,Za x1] h).fin:=by kernel_rfl
def Jq2 (k:Nat):S1:=(Jj (Jc Jl (Jc Jf (Ja 0) (eC (.int 1))) (Jc Jf (Ja 0) (eC (.int 2)))))
theorem Jt3:Jje (k+1) [x0] h=(Jq2 k [Za x0] h).fin:=by kernel_rfl
def Jpr:S1:=(Jj (Jc Jl (Jc Jf (Ja 1) (eC (.int 1))) (Jq "due" (Jo (pg k) "work" 1 (Ja 0) (Jb (Jc Jf (Ja 1) (eC (.int 0))) Jd)))))
theorem Jro:Jjc (k+1) [x0,x1] h=(Jpr k [Za x0,Za x1] h).fin:=by kernel_rfl
def Ja8:E1:=(Jm (Jc9 k) [] (Jb (Ja 0) Jd))
def Jjj:S1:=Jg (sIf (tOrI (JB (Jh tru (eIsi V5 (Ja 1)))) (Jh asB (Jc cNe (eCB (on1 lenI) (Jb (Ja 1) Jd)) (eC (.int 4))))) (Jj (eC (.bl Zj))) Jp) (Jg (sIf (JB (Jh tru (eCB (on1 allI) (Jb (J0 (Jx (Ja 1)) 1 [] (gNm 0) JF (Ja8 k)) Jd)))) (Jj (eC (.bl Zj))) Jp) (Jg (sIf (tOrI (JB (Jh asB (JW cLe cLt (eC (.int 0)) (Jc Jf (Ja 1) (eC (.int 0))) (Jo (pg k) "size" 0 (Ja 0) Jd)))) (Jh asB (Jc cLt (Jc Jf (Ja 1) (eC (.int 1))) (eC (.int 0))))) (Jj (eC (.bl Zj))) Jp) (Jg (Ji 2 (Jo (pg k) "work" 1 (Ja 0) (Jb (Jc Jf (Ja 1) (eC (.int 0))) Jd))) (Jj (eAnd (JW cLe cLe (eC (.int 0)) (Jc Jf (Ja 1) (eC (.int 2))) (Jq "late" (Ja 2))) (JW cLe cLe (eC (.int 1)) (Jc Jf (Ja 1) (eC (.int 3))) (Jq "length" (Ja 2))) tru)))))
theorem Jlo:Jdz (k+1) [x0,x1] h=(Jjj k [Za x0,Za x1,Zc] h).fin:=by kernel_rfl
def Jhe:S1:=Jg (Ji 2 Xl) (Jg (sFor (iRg QD (Jb (Ja 1) Jd)) (gTp 2 (gC (gNm 3) (gC (gNm 4) gN))) (Jg (sIf (JB (Jh tru (Jm (Jdz k) [] (Jb (Ja 0) (Jb (Ja 4) Jd))))) (Jj (Ja 3)) Jp) (Jg (Ji 5 (Jc Jf (Ja 4) (eC (.int 0)))) (Jg (sIf (JX (Jh asB (Jc cInD (Ja 5) (Ja 2))) (Jh asB (Jc cLt (Jc JZ (Jc Jf (Ja 4) (eC (.int 1))) (Jc QI (Ja 2) (Ja 5))) (Jq "gap" (Jo (pg k) "work" 1 (Ja 0) (Jb (Ja 5) Jd)))))) (Jj (Ja 3)) Jp) (sAsg (Jc Jf (Ja 4) (eC (.int 1))) (gSbD (Ja 2) (Ja 5))))))) (Jj (eC .non)))
theorem Jir:Jbv (k+1) [x0,x1] h=(Jhe k [Za x0,Za x1,Zc,Zc,Zc,Zc] h).fin:=by kernel_rfl
def Jmz:S1:=Jg (sIf (Jh asB (Jc cGt (eCB (on1 lenI) (Jb (Ja 1) Jd)) (eC (.int 200)))) stS Jp) (Jg (Ji 2 (Jm (Jbv k) [] (Jb (Ja 0) (Jb (Ja 1) Jd)))) (sIf (Jh asB (Jc Jn7 (Ja 2) (eC .non))) stS Jp))
theorem Jpu:Jg8 (k+1) [x0,x1] h=(Jmz k [Za x0,Za x1,Zc] h).fin:=by kernel_rfl
def Jby (k:Nat):E1:=(JW cLe cLe (eC (.str "a")) (Ja 0) (eC (.str "z")))
def Jhj:S1:=(Jj (eCB (on1 allI) (Jb (J0 (Jx (Ja 0)) 1 [] (gNm 0) JF (Jby k)) Jd)))
def Jhi:S1:=Jg (sIf (tOrI (JB (Jh tru (eIsi VQ (Ja 0)))) (JB (Jh asB (JW cLe cLe (eC (.int 1)) (eCB (on1 lenI) (Jb (Ja 0) Jd)) (eC (.int 8)))))) (Jj (eC (.bl Zj))) Jp) (Jhj k)
theorem Jpw:Jef (k+1) [x0] h=(Jhi k [Za x0] h).fin:=by kernel_rfl
def Jhh:S1:=(Jj (eAnd (Jm (V1 k) [] (Jb (Jc Jf (Ja 0) (eC (.int 2))) (Jb (Jc Jl (Jc Jf (Ja 0) (eC (.int 1))) (eC (.int 1))) Jd))) (Jc cLt (Jc Jf (Ja 0) (eC (.int 2))) (Ja 1)) tru))
def Jhg:S1:=Jg (sIf (JB (Jh tru (Jm (V1 k) [] (Jb (Jc Jf (Ja 0) (eC (.int 1))) (Jb (eC (.int 0)) Jd))))) (Jj (eC (.bl Zj))) Jp) (Jhh k)
def Jhf:S1:=Jg (sIf (tOrI (JB (Jh tru (eIsi V5 (Ja 0)))) (tOrI (Jh asB (Jc cNe (eCB (on1 lenI) (Jb (Ja 0) Jd)) (eC (.int 3)))) (JB (Jh tru (Jm (Jef k) [] (Jb (Jc Jf (Ja 0) (eC (.int 0))) Jd)))))) (Jj (eC (.bl Zj))) Jp) (Jhg k)
theorem Jpv:Jg9 (k+1) [x0,x1] h=(Jhf k [Za x0,Za x1] h).fin:=by kernel_rfl
def Jew (k:Nat):S1:=(Jj (eOr (Jc cLe (Jc Jf (Ja 0) (eC (.int 2))) (Jc Jf (Ja 1) (eC (.int 1)))) (Jc cLe (Jc Jf (Ja 1) (eC (.int 2))) (Jc Jf (Ja 0) (eC (.int 1)))) tru))
theorem Jlv:Jd4 (k+1) [x0,x1] h=(Jew k [Za x0,Za x1] h).fin:=by kernel_rfl
def Jhk (k:Nat):S1:=(Jj (eAnd (Jc cLe (Jc Jf (Ja 1) (eC (.int 1))) (Jc Jf (Ja 0) (eC (.int 1)))) (Jc cLe (Jc Jf (Ja 0) (eC (.int 2))) (Jc Jf (Ja 1) (eC (.int 2)))) tru))
theorem Jpz:Jeh (k+1) [x0,x1] h=(Jhk k [Za x0,Za x1] h).fin:=by kernel_rfl
def Jcw:S1:=(Jj (eOr (Jm (Jeh k) [] (Jb (Ja 0) (Jb (Ja 1) Jd))) (Jm (Jeh k) [] (Jb (Ja 1) (Jb (Ja 0) Jd))) tru))
def Jcv:S1:=Jg (sIf (Jh asB (Jc cEq (Jc Jf (Ja 0) (eC (.int 0))) (Jc Jf (Ja 1) (eC (.int 0))))) (Jj (eC (.bl Zj))) Jp) (Jcw k)
def Jcu:S1:=Jg (sIf (Jh tru (Jm (Jd4 k) [] (Jb (Ja 0) (Jb (Ja 1) Jd)))) (Jj (eC (.bl Zg))) Jp) (Jcv k)
theorem Jis:Jbw (k+1) [x0,x1] h=(Jcu k [Za x0,Za x1] h).fin:=by kernel_rfl
def Jas:E1:=(Jm (Jbw k) [] (Jb (Ja 1) (Jb (Ja 0) Jd)))
def Jau:S1:=(sIf (JB (Jh tru (eCB (on1 allI) (Jb (J0 (Jx (eSl slI (Ja 0) VF (QH (Ja 1)))) 1 [2] (gNm 0) JF (Jas k)) Jd)))) (Jj (eC (.bl Zj))) Jp)
def Ja7 (k:Nat):S1:=(Jj (eC (.bl Zg)))
def Ja6:S1:=Jg (sFor (iRg QD (Jb (Ja 0) Jd)) (gTp 2 (gC (gNm 1) (gC (gNm 2) gN))) (Jau k)) (Ja7 k)
theorem Jfm:Jan (k+1) [x0] h=(Ja6 k [Za x0,Zc,Zc] h).fin:=by kernel_rfl
def Jc2:E1:=(Jm (Jg9 k) [] (Jb (Ja 0) (Jb (Ja 1) Jd)))
def Jc3 (k:Nat):E1:=(J8 (Jb (Jc Jf (Ja 0) (eC (.int 0))) (Jb (Jc Jf (Ja 0) (eC (.int 1))) (Jb (Jc Jf (Ja 0) (eC (.int 2))) Jd))))
def Je2:S1:=(Jj (eCB (on1 Xw) (Jb (J0 (Jx (Ja 0)) 1 [] (gNm 0) JF (Jc3 k)) Jd)))
def Je1:S1:=Jg (sIf (JB (Jh tru (Jm (Jan k) [] (Jb (Ja 0) Jd)))) stS Jp) (Je2 k)
def Je0:S1:=Jg (sIf (JB (Jh tru (eCB (on1 allI) (Jb (J0 (Jx (Ja 0)) 1 [1] (gNm 0) JF (Jc2 k)) Jd)))) stS Jp) (Je1 k)
def Jez:S1:=Jg (sIf (Jh asB (Jc cGt (eCB (on1 lenI) (Jb (Ja 0) Jd)) (eC (.int 6)))) stS Jp) (Je0 k)
def Jey:S1:=Jg (sIf (JB (Jh tru (eIsi Vf (Ja 0)))) stS Jp) (Jez k)
def Jex:S1:=Jg (sIf (Jh asB (Jc cIs (Ja 0) (eC .non))) (Jj (J8 Jd)) Jp) (Jey k)
theorem Jlx:Yg (k+1) [x0,x1] h=(Jex k [Za x0,Za x1] h).fin:=by kernel_rfl
def Jhn (k:Nat):S1:=(Jj (Ja 0))
def Jhm:S1:=Jg (sIf (tOrI (JB (Jh tru (Jm (V1 k) [] (Jb (Ja 0) (Jb (eC (.int 1)) Jd))))) (Jh asB (Jc cGt (Ja 0) (Ja 1)))) stS Jp) (Jhn k)
def Jhl:S1:=Jg (sIf (Jh asB (Jc cIs (Ja 0) (eC .non))) (Jj (Ja 1)) Jp) (Jhm k)
theorem Jp0:Yf (k+1) [x0,x1] h=(Jhl k [Za x0,Za x1] h).fin:=by kernel_rfl
def Jer:S1:=(JR "hold_tuples" (Ja 0) (Jm (Yg k) [] (Jb (Ja 6) (Jb (Ja 3) Jd))))
def Jji:S1:=Jg (sIf (JB (Jh tru (Jm (Jef k) [] (Jb (Ja 1) Jd)))) stS Jp) (Jg (sIf (JB (Jh tru (Jm (V1 k) [] (Jb (Ja 2) (Jb (eC (.int 1)) Jd))))) stS Jp) (Jg (sIf (JB (Jh tru (Jm (V1 k) [] (Jb (Ja 3) (Jb (eC (.int 1)) Jd))))) stS Jp) (Jg (sIf (JB (Jh tru (Jm (V1 k) [] (Jb (Ja 5) (Jb (eC (.int 0)) Jd))))) stS Jp) (Jg (JR "name" (Ja 0) (Ja 1)) (Jg (JR "gap" (Ja 0) (Ja 2)) (Jg (JR "length" (Ja 0) (Ja 3)) (Jg (JR "due" (Ja 0) (Jm (Yf k) [] (Jb (Ja 4) (Jb (Ja 2) Jd)))) (Jg (JR "late" (Ja 0) (Ja 5)) (Jer k)))))))))
theorem Jln:Jbu (k+1) [x0,x1,x2,x3,x4,x5,x6] h=(Jji k [Za x0,Za x1,Za x2,Za x3,Za x4,Za x5,Za x6] h).fin:=by kernel_rfl
def Jeq (k:Nat):S1:=(Jj (eCB (on1 Vo) (Jb (Jq "hold_tuples" (Ja 0)) Jd)))
theorem Jlm:Jdy (k+1) [x0] h=(Jeq k [Za x0] h).fin:=by kernel_rfl
def Jjq:S1:=(Jj (eCB (on1 VC) (Jb (Jc Jl (Jw (Jb (Ja 2) Jd)) (J0 (Jx (Jo (pg k) "held" 0 (Ja 0) Jd)) 1 [1] (gNm 0) (Jh asB (Jc cGt (Jc Jf (Ja 0) (eC (.int 2))) (Ja 1))) (Jc Jf (Ja 0) (eC (.int 2))))) Jd)))
theorem Jlw:Jd5 (k+1) [x0,x1,x2] h=(Jjq k [Za x0,Za x1,Za x2] h).fin:=by kernel_rfl
def X3:E1:=(Jm (Jje k) [] (Jb (Jc Jf (Ja 1) (Ja 0)) Jd))
def Jdm (k:Nat):S1:=(JR "stretches" (Ja 0) (Jw Jd))
def Jih:S1:=Jg (JR "order" (Ja 0) (Ja 1)) (Jg (JR "row" (Ja 0) (Ja 2)) (Jg (JR "dones" (Ja 0) (J0 (Jx (Ja 2)) 1 [] (gNm 0) JF (eC (.int 0)))) (Jg (JR "later" (Ja 0) (Yo "Bench.__init__" 1 [2] (Jb (eCB (on1 lenI) (Jb (Ja 2) Jd)) Jd) (X3 k))) (Jg (JR "waiting" (Ja 0) (Jw Jd)) (Jg (JR "turn" (Ja 0) (eC (.int 0))) (Jdm k))))))
theorem Jjz:Jcm (k+1) [x0,x1,x2] h=(Jih k [Za x0,Za x1,Za x2] h).fin:=by kernel_rfl
def Jdj:S1:=(Jj (Jm (Jje k) [] (Jb (Jc Jf (Jq "row" (Ja 0)) (Jc Jf (Jq "later" (Ja 0)) (eUn Yz (eC (.int 1))))) Jd)))
theorem Jeb:Jag (k+1) [x0] h=(Jdj k [Za x0] h).fin:=by kernel_rfl
def Jcj:S1:=(Xt (JX (Jh asB (Jc cGt (eCB (on1 lenI) (Jb (Jq "later" (Ja 0)) Jd)) (eC (.int 0)))) (Jh asB (Jc cLe (Jo (pg k) "next_ready" 0 (Ja 0) Jd) (Jq "turn" (Ja 0))))) (JD (Jo (pg k) "append" 1 (Jq "waiting" (Ja 0)) (Jb (Jo (pg k) "pop" 0 (Jq "later" (Ja 0)) Jd) Jd))))
def Jgi:S1:=Jg (sIf (Jh asB (Jc cEq (eCB (on1 lenI) (Jb (Jq "waiting" (Ja 0)) Jd)) (eC (.int 0)))) (JR "turn" (Ja 0) (eCB (on2 maxI) (Jb (Jq "turn" (Ja 0)) (Jb (Jo (pg k) "next_ready" 0 (Ja 0) Jd) Jd)))) Jp) (Jcj k)
theorem Jht:Jbi (k+1) [x0] h=(Jgi k [Za x0] h).fin:=by kernel_rfl
def Jd8:S1:=Jg (Ji 2 (Jc Jf (Jq "row" (Ja 0)) (Ja 1))) (Jg (Ji 3 (Jc Jf (Jq "dones" (Ja 0)) (Ja 1))) (Jg (Ji 4 (Jc JZ (Jm (Jd5 k) [] (Jb (Jo (pg k) "work" 1 (Jq "duty" (Jq "order" (Ja 0))) (Jb (Jc Jf (Ja 2) (eC (.int 0))) Jd)) (Jb (Ja 3) (Jb (Jc Jf (Ja 2) (eC (.int 3))) Jd)))) (Ja 3))) (Jg (sIf (Jh asB (Jc cGt (eCB (on1 lenI) (Jb (Jq "later" (Ja 0)) Jd)) (eC (.int 0)))) (Ji 4 (eCB (on2 minI) (Jb (Ja 4) (Jb (Jc JZ (Jo (pg k) "next_ready" 0 (Ja 0) Jd) (Jq "turn" (Ja 0))) Jd)))) Jp) (Jj (Ja 4)))))
theorem Jfl:Jam (k+1) [x0,x1] h=(Jd8 k [Za x0,Za x1,Zc,Zc,Zc] h).fin:=by kernel_rfl
def Jdn:S1:=(JD (Jo (pg k) "append" 1 (Jq "stretches" (Ja 0)) (Jb (J8 (Jb (Ja 1) (Jb (Ja 3) (Jb (Ja 2) Jd)))) Jd)))
def Jii:S1:=Jg (Ji 3 (Jq "turn" (Ja 0))) (Jg (sIf (JX (Jh asB (Jc cGt (eCB (on1 lenI) (Jb (Jq "stretches" (Ja 0)) Jd)) (eC (.int 0)))) (Jh asB (Jc cEq (Jc Jf (Jc Jf (Jq "stretches" (Ja 0)) (eUn Yz (eC (.int 1)))) (eC (.int 0))) (Ja 1)))) (Ji 3 (Jc Jf (Jo (pg k) "pop" 0 (Jq "stretches" (Ja 0)) Jd) (eC (.int 1)))) Jp) (Jdn k))
theorem Jj0:Jcn (k+1) [x0,x1,x2] h=(Jii k [Za x0,Za x1,Za x2,Zc] h).fin:=by kernel_rfl
def Jhc:S1:=Jg (JD (Jo (pg k) "let_in" 0 (Ja 0) Jd)) (Jg (Ji 1 (Jo (pg k) "pick" 3 (Jq "order" (Ja 0)) (Jb (Jq "row" (Ja 0)) (Jb (Jq "waiting" (Ja 0)) (Jb (Jq "dones" (Ja 0)) Jd))))) (Jg (Ji 2 (Jo (pg k) "turns_for" 1 (Ja 0) (Jb (Ja 1) Jd))) (Jg (JD (Jo (pg k) "tell" 2 (Ja 0) (Jb (Ja 1) (Jb (Jc Jl (Jq "turn" (Ja 0)) (Ja 2)) Jd)))) (Jg (XQ .Add "turn" (Ja 0) (Ja 2)) (Jg (VY .Add (Jq "dones" (Ja 0)) (Ja 1) (Ja 2)) (sIf (Jh asB (Jc cEq (Jc Jf (Jq "dones" (Ja 0)) (Ja 1)) (Jc Jf (Jc Jf (Jq "row" (Ja 0)) (Ja 1)) (eC (.int 3))))) (JD (Jo (pg k) "remove" 1 (Jq "waiting" (Ja 0)) (Jb (Ja 1) Jd))) Jp))))))
theorem Jio:Jbr (k+1) [x0] h=(Jhc k [Za x0,Zc,Zc] h).fin:=by kernel_rfl
def Jxi:S1:=Jg (JD (Jm (Jg8 k) [] (Jb (Jq "duty" (Ja 0)) (Jb (Ja 1) Jd)))) (Jg (Ji 2 (QB "Bench" (Jcm k) [] (Jb (Ja 0) (Jb (Ja 1) Jd)))) (Jg (Xt (Jh asB (Jc cGt (Jc Jl (eCB (on1 lenI) (Jb (Jq "later" (Ja 2)) Jd)) (eCB (on1 lenI) (Jb (Jq "waiting" (Ja 2)) Jd))) (eC (.int 0)))) (JD (Jo (pg k) "go_on" 0 (Ja 2) Jd))) (Jj (Jq "stretches" (Ja 2)))))
theorem J0b:Jxb (k+1) [x0,x1] h=(Jxi k [Za x0,Za x1,Zc] h).fin:=by kernel_rfl
def Jc4 (k:Nat):E1:=(eIsi (Jv4 ["Work"]) (Ja 0))
def Jc5 (k:Nat):E1:=(Jq "name" (Ja 0))
def Je6 (k:Nat):S1:=(Jj (eCB (on1 Xw) (Jb (Ja 0) Jd)))
def Je5:S1:=Jg (sIf (Jh asB (Jc cNe (Ym (Jb (J0 (Jx (Ja 0)) 1 [] (gNm 0) JF (Jc5 k)) Jd)) (eCB (on1 lenI) (Jb (Ja 0) Jd)))) stS Jp) (Je6 k)
def Je4:S1:=Jg (sIf (JB (Jh tru (eCB (on1 allI) (Jb (J0 (Jx (Ja 0)) 1 [] (gNm 0) JF (Jc4 k)) Jd)))) stS Jp) (Je5 k)
def Je3:S1:=Jg (sIf (JB (Jh tru (eIsi Vf (Ja 0)))) stS Jp) (Je4 k)
theorem Jly:Jd6 (k+1) [x0] h=(Je3 k [Za x0] h).fin:=by kernel_rfl
def Jds (k:Nat):E1:=(Jq "due" (Ja 0))
def Jdt:E1:=(Jm (Jd7 k) [] (Jb (Jc Jl (Ja 1) (Jq "late" (Ja 0))) (Jb (Jq "gap" (Ja 0)) Jd)))
def Jga:S1:=(Jj (eCB (on1 sumI) (Jb (J0 (Jx (Ja 0)) 1 [1] (gNm 0) JF (Jdt k)) Jd)))
def Jf9:S1:=Jg (Ji 1 (Yn (Jb (J0 (Jx (Ja 0)) 1 [] (gNm 0) JF (Jds k)) Jd) (eC (.int 0)))) (Jga k)
theorem Jm9:Jfr (k+1) [x0] h=(Jf9 k [Za x0,Zc] h).fin:=by kernel_rfl
def Jen:S1:=(sIf (Jh asB (Jc cGt (Jm (Jfr k) [] (Jb (Jq "works" (Ja 0)) Jd)) (eC (.int 80)))) stS Jp)
def Jem:S1:=Jg (sIf (Jh asB (Jc cGt (eCB (on1 lenI) (Jb (Jq "works" (Ja 0)) Jd)) (eC (.int 12)))) stS Jp) (Jen k)
def Jel:S1:=Jg (JR "works" (Ja 0) (Jm (Jd6 k) [] (Jb (Ja 1) Jd))) (Jem k)
theorem Jlj:Jbt (k+1) [x0,x1] h=(Jel k [Za x0,Za x1] h).fin:=by kernel_rfl
def Jeo (k:Nat):S1:=(Jj (eCB (on1 lenI) (Jb (Jq "works" (Ja 0)) Jd)))
theorem Jlk:Jdw (k+1) [x0] h=(Jeo k [Za x0] h).fin:=by kernel_rfl
def Jep (k:Nat):S1:=(Jj (Jc Jf (Jq "works" (Ja 0)) (Ja 1)))
theorem Jll:Jdx (k+1) [x0,x1] h=(Jep k [Za x0,Za x1] h).fin:=by kernel_rfl
def Jfn:S1:=(JD (Jo (pg k) "setdefault" 2 (Ja 1) (Jb (Jc Jf (Ja 3) (eC (.int 0))) (Jb (Ja 2) Jd))))
def Jch:S1:=(sFor (Jx (Jo (pg k) "held" 0 (Jo (pg k) "work" 1 (Ja 0) (Jb (Ja 2) Jd)) Jd)) (gNm 3) (Jfn k))
def Jct (k:Nat):S1:=(Jj (Ja 1))
def Jcs:S1:=Jg (sFor (iRg Q6 (Jb (Jo (pg k) "size" 0 (Ja 0) Jd) Jd)) (gNm 2) (Jch k)) (Jct k)
def Jcr:S1:=Jg (Ji 1 Xl) (Jcs k)
theorem Jhv:Yc (k+1) [x0] h=(Jcr k [Za x0,Zc,Zc,Zc] h).fin:=by kernel_rfl
def Jck:S1:=(sIf (Jh asB (Jc cGt (eCB (on1 XA) (Jb (Jm (Yc k) [] (Jb (Ja 0) Jd)) Jd)) (eC (.int 0)))) stS Jp)
theorem Jhw:Jao (k+1) [x0] h=(Jck k [Za x0] h).fin:=by kernel_rfl
def Jbp (k:Nat):E1:=(Jc Jf (Ja 0) (eC (.int 0)))
def Jbq (k:Nat):T1:=(Jh asB (JW cLt cLt (Jc Jf (Ja 0) (eC (.int 1))) (Ja 1) (Jc Jf (Ja 0) (eC (.int 2)))))
def Jcz:S1:=(Jj (J0 (Jx (Jo (pg k) "held" 0 (Ja 0) Jd)) 1 [1] (gNm 0) (Jbq k) (Jbp k)))
theorem Jiu:Jaw (k+1) [x0,x1] h=(Jcz k [Za x0,Za x1] h).fin:=by kernel_rfl
def Jgd (k:Nat):E1:=(Jc QI (Ja 1) (Ja 0))
def Ji4:S1:=(Jj (eCB (on1 VC) (Jb (Jc Jl (Jw (Jb (Ja 0) Jd)) (J0 (Jx (Ja 1)) 1 [2] (gNm 0) JF (Jgd k))) Jd)))
theorem Jrp:Jjd (k+1) [x0,x1,x2] h=(Ji4 k [Za x0,Za x1,Za x2] h).fin:=by kernel_rfl
def Jdq (k:Nat):S1:=(JR "duty" (Ja 0) (Ja 1))
theorem Jj2:Ya (k+1) [x0,x1] h=(Jdq k [Za x0,Za x1] h).fin:=by kernel_rfl
def Jhd (k:Nat):S1:=(Jj (eC (.bl Zj)))
theorem Jiq:Jav (k+1) [x0,x1,x2] h=(Jhd k [Za x0,Za x1,Za x2] h).fin:=by kernel_rfl
def Jcl:E1:=(Jc Jl (Jo (pg k) "standing" 2 (Ja 3) (Jb (Jc Jf (Ja 2) (Ja 0)) (Jb (Jc Jf (Ja 1) (Ja 0)) Jd))) (J8 (Jb (Ja 0) Jd)))
def Jdr:S1:=(Jj (X4 ltT "Order.pick" 0 [3,1,0] (Jb (Ja 2) Jd) (Jcl k)))
theorem Jj3:X1 (k+1) [x0,x1,x2,x3] h=(Jdr k [Za x0,Za x1,Za x2,Za x3] h).fin:=by kernel_rfl
def Jba:S1:=(Jj (J8 (Jb (Jo (pg k) "rank_of" 2 (Ja 0) (Jb (Ja 1) (Jb (Ja 2) Jd))) (Jb (eIf (Jh tru (Jo (pg k) "holds" 2 (Ja 0) (Jb (Ja 1) (Jb (Ja 2) Jd)))) (eC (.int 0)) (eC (.int 1))) Jd))))
theorem Jf2:Yb (k+1) [x0,x1,x2] h=(Jba k [Za x0,Za x1,Za x2] h).fin:=by kernel_rfl
def Jcq:S1:=(JR "tops" (Ja 0) (Jm (Yc k) [] (Jb (Ja 1) Jd)))
def Jcp:S1:=Jg (JD (Jm (Ya k) [] (Jb (Ja 0) (Jb (Ja 1) Jd)))) (Jcq k)
theorem Jip:Jbs (k+1) [x0,x1] h=(Jcp k [Za x0,Za x1] h).fin:=by kernel_rfl
def Jek:S1:=(Jj (Jm (Jjd k) [] (Jb (Jc Jf (Ja 1) (eC (.int 0))) (Jb (Jm (Jaw k) [] (Jb (Jo (pg k) "work" 1 (Jq "duty" (Ja 0)) (Jb (Jc Jf (Ja 1) (eC (.int 0))) Jd)) (Jb (Ja 2) Jd))) (Jb (Jq "tops" (Ja 0)) Jd)))))
theorem Jf1:Jat (k+1) [x0,x1,x2] h=(Jek k [Za x0,Za x1,Za x2] h).fin:=by kernel_rfl
def Jgj:S1:=(Jj (Jc cGt (eCB (on1 lenI) (Jb (Jm (Jaw k) [] (Jb (Jo (pg k) "work" 1 (Jq "duty" (Ja 0)) (Jb (Jc Jf (Ja 1) (eC (.int 0))) Jd)) (Jb (Ja 2) Jd))) Jd)) (eC (.int 0))))
theorem Jhu:Jbj (k+1) [x0,x1,x2] h=(Jgj k [Za x0,Za x1,Za x2] h).fin:=by kernel_rfl
def Jdp:S1:=(JD (Jm (Ya k) [] (Jb (Ja 0) (Jb (Ja 1) Jd))))
def Jdo:S1:=Jg (JD (Jm (Jao k) [] (Jb (Ja 1) Jd))) (Jdp k)
theorem Jj1:Jco (k+1) [x0,x1] h=(Jdo k [Za x0,Za x1] h).fin:=by kernel_rfl
def Jfw:S1:=(Jj (Jm (Jjc k) [] (Jb (Jq "duty" (Ja 0)) (Jb (Ja 1) Jd))))
theorem Jgn:Ja5 (k+1) [x0,x1,x2] h=(Jfw k [Za x0,Za x1,Za x2] h).fin:=by kernel_rfl
def Jbn:S1:=(JD (Jm (Ya k) [] (Jb (Ja 0) (Jb (Ja 1) Jd))))
def Jbm:S1:=Jg (JD (Jm (Jao k) [] (Jb (Ja 1) Jd))) (Jbn k)
theorem Jgm:Ja4 (k+1) [x0,x1] h=(Jbm k [Za x0,Za x1] h).fin:=by kernel_rfl
def Jdk (k:Nat):S1:=(Jj (Jc Jf (Ja 1) (eC (.int 1))))
theorem Jec:Jah (k+1) [x0,x1,x2] h=(Jdk k [Za x0,Za x1,Za x2] h).fin:=by kernel_rfl
def Jcy (k:Nat):S1:=(Jj (eC (.int 0)))
def Jcx:S1:=Jg (sIf (Jh asB (Jc cLt (Ja 1) (eCB (on1 lenI) (Jb (Ja 0) Jd)))) (Jj (Jc Jf (Ja 0) (Ja 1))) Jp) (Jcy k)
theorem Jit:VL (k+1) [x0,x1] h=(Jcx k [Za x0,Za x1] h).fin:=by kernel_rfl
def Jij:S1:=Jg (Ji 2 (Jw Jd)) (Jg (sIf (Jh asB (Jc cGe (Ja 0) (Jc JJ (eC (.int 10)) (eC (.int 30))))) (Jg (Ji 3 (Jc JZ (Ja 0) (Jc JJ (eC (.int 10)) (eC (.int 30))))) (Jg (sFor (iRg Q6 (Jb (Ja 1) Jd)) (gNm 4) (Jg (JD (Jo (pg k) "append" 1 (Ja 2) (Jb (Jc Ju (Ja 3) (Jc JJ (eC (.int 10)) (eC (.int 45)))) Jd))) (Ji 3 (Jc JI (Ja 3) (Jc JJ (eC (.int 10)) (eC (.int 45))))))) (Jj (Ja 2)))) Jp) (Jg (Ji 5 (Jc Jl (Jc Ju (Ja 0) (Jc Jl (Jc JJ (eC (.int 10)) (eC (.int 18))) (eC (.int 9)))) (eC (.int 48271)))) (Jg (sFor (iRg Q6 (Jb (Jc Jl (Ja 1) (eC (.int 2))) Jd)) (gNm 4) (Jg (Ji 5 (Jc Ju (Jc Jl (Jc Jl (Jc Qy (Ja 5) (Ja 5)) (Jc Qy (eC (.int 48271)) (Ja 5))) (Ja 4)) (Jc Jl (Jc JJ (eC (.int 10)) (eC (.int 18))) (eC (.int 9))))) (JD (Jo (pg k) "append" 1 (Ja 2) (Jb (Ja 5) Jd))))) (Jj (eSl slI (Ja 2) (QH (eC (.int 2))) VF)))))
theorem Jj4:Yd (k+1) [x0,x1] h=(Jij k [Za x0,Za x1,Zc,Zc,Zc,Zc] h).fin:=by kernel_rfl
def Jdv (k:Nat):E1:=(Jc Jf (Ja 2) (Jc Ju (Jc JI (Ja 1) (Jc Jl (eC (.int 11)) (Jc Qy (Ja 0) (Ja 0)))) (eC (.int 26))))
def Jk1:S1:=Jg (Ji 2 (eC (.str "abcdefghijklmnopqrstuvwxyz"))) (Jg (Ji 3 (Jc Jl (eC (.int 1)) (Jc Ju (Ja 0) (eC (.int 8))))) (Jg (Ji 4 (Jo (pg k) "join" 1 (eC (.str "")) (Jb (J0 (iRg Q6 (Jb (Ja 3) Jd)) 1 [0,2] (gNm 0) JF (Jdv k)) Jd))) (Jg (Ji 5 (Jc Ju (Jc JI (Ja 0) (eC (.int 8))) (Ja 3))) (Jj (Jc Jl (Jc Jl (eSl slT (Ja 4) VF (QH (Ja 5))) (Jc Jf (Ja 2) (Jc Ju (Jc Jl (Jc JI (Ja 0) (eC (.int 64))) (Ja 1)) (eC (.int 26))))) (eSl slT (Ja 4) (QH (Jc Jl (Ja 5) (eC (.int 1)))) VF))))))
theorem Jnd:Jda (k+1) [x0,x1] h=(Jk1 k [Za x0,Za x1,Zc,Zc,Zc,Zc] h).fin:=by kernel_rfl
def Jc0 (k:Nat):E1:=(Jc Ju (Ja 0) (Ja 1))
def Jc1 (k:Nat):T1:=(Jh asB (Jc cLt (Jc Jf (Ja 0) (eC (.int 1))) (Jc Jf (Ja 0) (eC (.int 2)))))
def Jev:S1:=(Jj (J0 (Jx (Jc Jf (Ja 8) (Jc Ju (Jc Jf (Ja 0) (eC (.int 8))) (eC (.int 7))))) 1 [] (gNm 0) (Jc1 k) (Ja 0)))
def Jeu:S1:=Jg (JD (Jo (pg k) "append" 1 (Ja 8) (Jb (Jw (Jb (J8 (Jb (Ja 6) (Jb (Jc Jf (Ja 3) (eC (.int 1))) (Jb (Jc Jf (Ja 3) (eC (.int 4))) Jd)))) (Jb (J8 (Jb (Ja 4) (Jb (Jc Jf (Ja 3) (eC (.int 0))) (Jb (Jc Jf (Ja 3) (eC (.int 5))) Jd)))) (Jb (J8 (Jb (Ja 7) (Jb (Jc Jf (Ja 3) (eC (.int 2))) (Jb (Jc Jf (Ja 3) (eC (.int 3))) Jd)))) Jd)))) Jd))) (Jev k)
def Jet:S1:=Jg (Ji 8 (Jc Jl (Ja 8) (Jw (Jb (Jw (Jb (J8 (Jb (Ja 4) (Jb (Jc Jf (Ja 3) (eC (.int 0))) (Jb (Jc Jf (Ja 3) (eC (.int 1))) Jd)))) (Jb (J8 (Jb (Ja 6) (Jb (Jc Jf (Ja 3) (eC (.int 2))) (Jb (Jc Jf (Ja 3) (eC (.int 5))) Jd)))) Jd))) (Jb (Jw (Jb (J8 (Jb (Ja 4) (Jb (Jc Jf (Ja 3) (eC (.int 2))) (Jb (Jc Jf (Ja 3) (eC (.int 4))) Jd)))) (Jb (J8 (Jb (Ja 4) (Jb (Jc Jf (Ja 3) (eC (.int 0))) (Jb (Jc Jf (Ja 3) (eC (.int 1))) Jd)))) Jd))) Jd))))) (Jeu k)
def Jes:S1:=Jg (Ji 8 (Jw (Jb (Jw Jd) (Jb (Jw (Jb (J8 (Jb (Ja 4) (Jb (Jc Jf (Ja 3) (eC (.int 0))) (Jb (Jc Jf (Ja 3) (eC (.int 5))) Jd)))) Jd)) (Jb (Jw (Jb (J8 (Jb (Ja 4) (Jb (Jc Jf (Ja 3) (eC (.int 0))) (Jb (Jc Jf (Ja 3) (eC (.int 5))) Jd)))) (Jb (J8 (Jb (Ja 6) (Jb (Jc Jf (Ja 3) (eC (.int 1))) (Jb (Jc Jf (Ja 3) (eC (.int 4))) Jd)))) Jd))) (Jb (Jw (Jb (J8 (Jb (Ja 6) (Jb (Jc Jf (Ja 3) (eC (.int 1))) (Jb (Jc Jf (Ja 3) (eC (.int 2))) Jd)))) (Jb (J8 (Jb (Ja 4) (Jb (Jc Jf (Ja 3) (eC (.int 0))) (Jb (Jc Jf (Ja 3) (eC (.int 3))) Jd)))) Jd))) Jd)))))) (Jet k)
def Jjl:S1:=Jg (Ji 3 (eCB (on1 XS) (Jb (J0 (Jx (eSl slI (Ja 0) VF (QH (eC (.int 6))))) 1 [1] (gNm 0) JF (Jc0 k)) Jd))) (Jg (Ji 4 (Jc Jf (Ja 2) (Jc Ju (Jc Jf (Ja 0) (eC (.int 6))) (eC (.int 3))))) (Jg (Ji 5 (Jc Jl (eC (.int 1)) (Jc Ju (Jc Jf (Ja 0) (eC (.int 7))) (eC (.int 2))))) (Jg (Ji 6 (Jc Jf (Ja 2) (Jc Ju (Jc Jl (Jc Jf (Ja 0) (eC (.int 6))) (Ja 5)) (eC (.int 3))))) (Jg (Ji 7 (Jc Jf (Ja 2) (Jc Ju (Jc Jl (Jc Jf (Ja 0) (eC (.int 6))) (Jc Qy (eC (.int 2)) (Ja 5))) (eC (.int 3))))) (Jes k)))))
theorem Jlq:Jd0 (k+1) [x0,x1,x2] h=(Jjl k [Za x0,Za x1,Za x2,Zc,Zc,Zc,Zc,Zc,Zc] h).fin:=by kernel_rfl
def Jjn:S1:=Jg (Ji 4 (Jm (Yd k) [] (Jb (Ja 0) (Jb (eC (.int 17)) Jd)))) (Jg (Ji 5 (Jc Jl (Jc Qy (Ja 1) (Jc Jl (eC (.int 1)) (Jc Ju (Jc Jf (Ja 4) (eC (.int 0))) (Jc Jf (Jw (Jb (eC (.int 7)) (Jb (eC (.int 2)) Jd))) (eCB (on1 Xn) (Jb (Jc cGt (Ja 3) (eC (.int 5))) Jd)))))) (Jc Ju (Jc Jf (Ja 4) (eC (.int 1))) (Jc Jl (eC (.int 1)) (Jc JI (Ja 1) (eC (.int 2))))))) (Jg (Ji 6 (Jc JZ (Ja 5) (Jc Jf (Jw (Jb (eC (.int 0)) (Jb (Jc Ju (Jc Jf (Ja 4) (eC (.int 2))) (Ja 5)) Jd))) (Jc Ju (Jc Jf (Ja 4) (eC (.int 3))) (eC (.int 2)))))) (Jg (Ji 7 (Jc Jf (Jw (Jb (eC (.int 0)) (Jb (eC (.int 0)) (Jb (Jc Ju (Jc Jf (Ja 4) (eC (.int 4))) (Jc Jl (eC (.int 1)) (Jc JI (Ja 5) (eC (.int 3))))) (Jb (Jc Ju (Jc Jf (Ja 4) (eC (.int 4))) (Jc Jl (eC (.int 1)) (Jc JI (Jc Qy (eC (.int 3)) (Ja 5)) (eC (.int 2))))) Jd))))) (Jc Ju (Jc Jf (Ja 4) (eC (.int 5))) (eC (.int 4))))) (Jg (Ji 8 (Jc Jl (eC (.int 1)) (Jc Ju (Jc Jf (Ja 4) (eC (.int 6))) (eCB (on2 maxI) (Jb (eC (.int 1)) (Jb (Jc JI (Ja 5) (Jc Jf (Jw (Jb (eC (.int 1)) (Jb (eC (.int 2)) (Jb (eC (.int 4)) (Jb (eC (.int 9)) (Jb (eC (.int 25)) Jd)))))) (Jc Ju (Jc Jf (Ja 4) (eC (.int 7))) (Jc Jf (Jw (Jb (eC (.int 4)) (Jb (eC (.int 5)) Jd))) (eCB (on1 Xn) (Jb (Jc cGt (Ja 3) (eC (.int 5))) Jd)))))) Jd)))))) (Jg (Ji 9 (Jw Jd)) (Jg (sIf (Jh asB (Jc cNe (Ja 2) (Jw Jd))) (Ji 9 (Jm (Jd0 k) [] (Jb (eSl slI (Ja 4) (QH (eC (.int 8))) VF) (Jb (Ja 8) (Jb (Ja 2) Jd))))) Jp) (Jj (J8 (Jb (Ja 5) (Jb (Ja 8) (Jb (Ja 6) (Jb (Ja 7) (Jb (Ja 9) Jd)))))))))))))
theorem Jls:Jd2 (k+1) [x0,x1,x2,x3] h=(Jjn k [Za x0,Za x1,Za x2,Za x3,Zc,Zc,Zc,Zc,Zc,Zc] h).fin:=by kernel_rfl
def Jdu:E1:=(Jm (Jda k) [] (Jb (Jc JI (Ja 1) (eC (.int 5))) (Jb (Ja 0) Jd)))
def Jgc:S1:=Jg (Ji 7 (Jw Jd)) (Jg (sFor (iRg Q6 (Jb (Ja 5) Jd)) (gNm 8) (Jg (Ji 9 (Jm (Jd2 k) [] (Jb (Jc Jl (Jm (VL k) [] (Jb (Ja 0) (Jb (Jc Jl (eC (.int 2)) (Jc Ju (Ja 8) (eC (.int 5)))) Jd))) (Jc Qy (eC (.int 7)) (Ja 8))) (Jb (Ja 3) (Jb (Ja 6) (Jb (Ja 5) Jd)))))) (JD (Jo (pg k) "append" 1 (Ja 7) (Jb (Jc Jl (J8 (Jb (Jm (Jda k) [] (Jb (Jc JI (Ja 4) (eC (.int 7))) (Jb (Ja 8) Jd))) Jd)) (Ja 9)) Jd))))) (Jj (Ja 7)))
def Jgb:S1:=Jg (Ji 6 (Jw Jd)) (Jg (sIf (Jh tru (Ja 1)) (Ji 6 (J0 (iRg Q6 (Jb (eC (.int 3)) Jd)) 1 [4] (gNm 0) JF (Jdu k))) Jp) (Jgc k))
def Jk0:S1:=Jg (Ji 2 (Jm (VL k) [] (Jb (Ja 0) (Jb (eC (.int 0)) Jd)))) (Jg (Ji 3 (Jc Jl (eC (.int 1)) (Jc Ju (Jc JI (Ja 2) (eC (.int 4))) (Jc Jf (Jw (Jb (eC (.int 4)) (Jb (Jc JJ (eC (.int 10)) (eC (.int 15))) (Jb (Jc JJ (eC (.int 10)) (eC (.int 15))) (Jb (Jc JJ (eC (.int 10)) (eC (.int 40))) Jd))))) (Jc Ju (Ja 2) (eC (.int 4))))))) (Jg (Ji 4 (Jm (VL k) [] (Jb (Ja 0) (Jb (eC (.int 1)) Jd)))) (Jg (Ji 5 (Jc Ju (Ja 4) (eC (.int 6)))) (Jg (sIf (Jh asB (Jc cEq (Jc Ju (Jc JI (Ja 4) (eC (.int 6))) (eC (.int 8))) (eC (.int 5)))) (Ji 5 (Jc Jl (eC (.int 6)) (Jc Ju (Jc JI (Ja 4) (eC (.int 48))) (eC (.int 7))))) Jp) (Jgb k)))))
theorem Jnc:Jft (k+1) [x0,x1] h=(Jk0 k [Za x0,Za x1,Zc,Zc,Zc,Zc,Zc,Zc,Zc,Zc] h).fin:=by kernel_rfl
def Jgf:S1:=(Jg (Ji 6 (Jm (Yd k) [] (Jb (Ja 5) (Jb (eC (.int 6)) Jd)))) (Jg (Ji 7 (Jc Ju (Jc Jf (Ja 6) (eC (.int 0))) (eCB (on1 lenI) (Jb (Ja 1) Jd)))) (Jg (sAsg (Jc Jf (Ja 1) (Ja 7)) (gTp 6 (gC (gNm 8) (gC (gNm 9) (gC (gNm 10) (gC (gNm 11) (gC (gNm 12) (gC (gNm 13) gN)))))))) (Jg (Ji 14 (Jc Jf (Jw (Jb (Ja 12) (Jb (eC (.int 0)) (Jb (Jc Ju (Jc Jf (Ja 6) (eC (.int 1))) (Jc Jl (Ja 12) (eC (.int 1)))) Jd)))) (Jc Ju (Jc Jf (Ja 6) (eC (.int 2))) (eC (.int 3))))) (Jg (Ji 15 (Jc Jl (Jc JZ (Ja 4) (Ja 14)) (Jc Jf (Jw (Jb (eC (.int 0)) (Jb (Jc Ju (Jc Jf (Ja 6) (eC (.int 3))) (Ja 9)) (Jb (Jc JZ (eC (.int 0)) (Jc Ju (Jc Jf (Ja 6) (eC (.int 3))) (Ja 9))) Jd)))) (Jc Ju (Jc Jf (Ja 6) (eC (.int 4))) (eC (.int 3)))))) (Jg (sIf (Jh asB (Jc cInD (Ja 7) (Ja 3))) (Ji 15 (Jc Jl (Jc Jl (Jc QI (Ja 3) (Ja 7)) (Ja 9)) (Jc Jf (Jw (Jb (eC (.int 0)) (Jb (Jc Ju (Jc Jf (Ja 6) (eC (.int 3))) (Jc Jl (eC (.int 1)) (Ja 9))) Jd))) (Jc Ju (Jc Jf (Ja 6) (eC (.int 4))) (eC (.int 2)))))) Jp) (Jg (sAsg (Ja 15) (gSbD (Ja 3) (Ja 7))) (JD (Jo (pg k) "append" 1 (Ja 2) (Jb (J8 (Jb (Ja 7) (Jb (Ja 15) (Jb (Ja 14) (Jb (Jc Jf (Jw (Jb (Ja 10) (Jb (Ja 10) (Jb (Jc Jl (eC (.int 1)) (Jc Ju (Jc Jf (Ja 6) (eC (.int 5))) (Ja 10))) Jd)))) (Jc Ju (Jc JI (Jc Jf (Ja 6) (eC (.int 4))) (eC (.int 6))) (eC (.int 3)))) Jd))))) Jd))))))))))
def Jm1:S1:=Jg (Ji 2 (Jw Jd)) (Jg (Ji 3 Xl) (Jg (sIf (Jh asB (Jc cEq (Ja 1) (Jw Jd))) (Jj (Ja 2)) Jp) (Jg (Ji 4 (Jc Qy (eC (.int 3)) (eCB (on1 XB) (Jb (J0 (Jx (Ja 1)) 1 [] (gNm 0) JF (Jc Jf (Ja 0) (eC (.int 1)))) Jd)))) (Jg (sFor (Jx (Ja 0)) (gNm 5) (Jgf k)) (Jj (Ja 2))))))
theorem Jpy:Jha (k+1) [x0,x1] h=(Jm1 k [Za x0,Za x1,Zc,Zc,Zc,Zc,Zc,Zc,Zc,Zc,Zc,Zc,Zc,Zc,Zc,Zc] h).fin:=by kernel_rfl
def Jai:E1:=(QB "Work" (Jbu k) [] (Jb (Jc Jf (Ja 0) (eC (.int 0))) (Jb (Jc Jf (Ja 0) (eC (.int 1))) (Jb (Jc Jf (Ja 0) (eC (.int 2))) (Jb (Jc Jf (Ja 0) (eC (.int 3))) (Jb (Jc Jf (Ja 0) (eC (.int 4))) (Jb (eCB (on1 Vo) (Jb (Jc Jf (Ja 0) (eC (.int 5))) Jd)) Jd)))))))
def Jjm:S1:=Jg (Ji 2 (QB "Duty" (Jbt k) [] (Jb (J0 (Jx (Ja 1)) 1 [] (gNm 0) JF (Jai k)) Jd))) (Jg (sIf (Jh asB (Jc cEq (Ja 0) (eC (.int 1)))) (Jj (QB "ByDue" (Jco k) [] (Jb (Ja 2) Jd))) Jp) (Jg (sIf (Jh asB (Jc cEq (Ja 0) (eC (.int 2)))) (Jj (QB "ByComing" (Ja4 k) [] (Jb (Ja 2) Jd))) Jp) (Jj (QB "ByRank" (Jbs k) [] (Jb (Ja 2) Jd)))))
theorem Jlr:Jd1 (k+1) [x0,x1] h=(Jjm k [Za x0,Za x1,Zc] h).fin:=by kernel_rfl
def Jkz:S1:=Jg (Ji 1 Xl) (Jg (sFor (iRg QD (Jb (Ja 0) Jd)) (gTp 2 (gC (gNm 2) (gC (gNm 3) gN))) (sFor (Jx (Jc Jf (Ja 3) (eC (.int 5)))) (gTp 3 (gC (gNm 4) (gC (gNm 5) (gC (gNm 6) gN)))) (JD (Jo (pg k) "setdefault" 2 (Ja 1) (Jb (Ja 4) (Jb (Ja 2) Jd)))))) (Jj (Ja 1)))
theorem Jnb:Jfs (k+1) [x0] h=(Jkz k [Za x0,Zc,Zc,Zc,Zc,Zc,Zc] h).fin:=by kernel_rfl
def Je8 (k:Nat):E1:=(Jc QI (Ja 4) (Ja 0))
def Je9 (k:Nat):T1:=(JX (Jh asB (Jc cLt (Ja 1) (Ja 3))) (Jh asB (Jc cLt (Ja 3) (Ja 2))))
def Jm0:S1:=Jg (sAsg (Ja 3) (gTp 4 (gC (gNm 6) (gC (gNm 7) (gC (gNm 8) (gC (gNm 9) gN)))))) (Jg (sIf (Jh asB (Jc cEq (Ja 0) (eC (.int 1)))) (Jj (J8 (Jb (Jc Jl (Ja 7) (Jc Jf (Jc Jf (Ja 1) (Ja 6)) (eC (.int 3)))) (Jb (eC (.int 1)) (Jb (Ja 5) Jd))))) Jp) (Jg (sIf (Jh asB (Jc cEq (Ja 0) (eC (.int 2)))) (Jj (J8 (Jb (Ja 7) (Jb (eC (.int 1)) (Jb (Ja 5) Jd))))) Jp) (Jg (Ji 10 (J0 (Jx (Jc Jf (Jc Jf (Ja 1) (Ja 6)) (eC (.int 5)))) 3 [4,2] (gTp 3 (gC (gNm 0) (gC (gNm 1) (gC (gNm 2) gN)))) (Je9 k) (Je8 k))) (Jj (J8 (Jb (eCB (on1 VC) (Jb (Jc Jl (Jw (Jb (Ja 6) Jd)) (Ja 10)) Jd)) (Jb (eCB (on1 Xn) (Jb (Jc cEq (Ja 10) (Jw Jd)) Jd)) (Jb (Ja 5) Jd))))))))
theorem Jpx:Jeg (k+1) [x0,x1,x2,x3,x4,x5] h=(Jm0 k [Za x0,Za x1,Za x2,Za x3,Za x4,Za x5,Zc,Zc,Zc,Zc,Zc] h).fin:=by kernel_rfl
def Jjp (k:Nat):S1:=(Jj (J0 (iRg Q6 (Jb (eCB (on1 lenI) (Jb (Ja 0) Jd)) Jd)) 1 [1,0,2] (gNm 0) (JX (Jh asB (Jc cLe (Jc Jl (Jc Jf (Jc Jf (Ja 2) (Ja 0)) (eC (.int 1))) (Jc Jf (Jc Jf (Ja 2) (Ja 0)) (eC (.int 2)))) (Ja 3))) (Jh asB (Jc cLt (Jc Jf (Ja 1) (Ja 0)) (Jc Jf (Jc Jf (Ja 2) (Ja 0)) (eC (.int 3)))))) (Ja 0)))
theorem Jlu:Ye (k+1) [x0,x1,x2] h=(Jjp k [Za x0,Za x1,Za x2] h).fin:=by kernel_rfl
def Jjo:S1:=Jg (sAsg (Ja 3) (gTp 3 (gC (gNm 4) (gC (gNm 5) (gC (gNm 6) gN))))) (Jg (Ji 7 (Jw (Jb (Ja 5) Jd))) (Jg (sFor (Jx (Ja 1)) (gNm 8) (sIf (JX (Jh asB (Jc cLt (Ja 5) (Jc Jl (Jc Jf (Ja 8) (eC (.int 1))) (Jc Jf (Ja 8) (eC (.int 2)))))) (Jh asB (Jc cLt (Jc Jl (Jc Jf (Ja 8) (eC (.int 1))) (Jc Jf (Ja 8) (eC (.int 2)))) (Ja 6)))) (JD (Jo (pg k) "append" 1 (Ja 7) (Jb (Jc Jl (Jc Jf (Ja 8) (eC (.int 1))) (Jc Jf (Ja 8) (eC (.int 2)))) Jd))) Jp)) (Jg (sFor (Jx (Jc Jf (Jc Jf (Ja 0) (Jc Jf (Jc Jf (Ja 1) (Ja 4)) (eC (.int 0)))) (eC (.int 5)))) (gTp 3 (gC (gNm 9) (gC (gNm 10) (gC (gNm 11) gN)))) (sIf (JX (Jh asB (Jc cLt (Ja 2) (Ja 11))) (Jh asB (Jc cLt (Ja 11) (Jc JZ (Jc Jl (Ja 2) (Ja 6)) (Ja 5))))) (JD (Jo (pg k) "append" 1 (Ja 7) (Jb (Jc JZ (Jc Jl (Ja 5) (Ja 11)) (Ja 2)) Jd))) Jp)) (Jj (Ja 7)))))
theorem Jlt:Jd3 (k+1) [x0,x1,x2,x3] h=(Jjo k [Za x0,Za x1,Za x2,Za x3,Zc,Zc,Zc,Zc,Zc,Zc,Zc,Zc] h).fin:=by kernel_rfl
def Jjk:S1:=Jg (Ji 5 (Jm (Jfs k) [] (Jb (Ja 1) Jd))) (Jg (sAsg (Ja 4) (gTp 3 (gC (gNm 6) (gC (gNm 7) (gC (gNm 8) gN))))) (Jg (sFor (Jx (Jm (Jd3 k) [] (Jb (Ja 1) (Jb (Ja 2) (Jb (Jc Jf (Ja 3) (Ja 6)) (Jb (Ja 4) Jd)))))) (gNm 9) (Jg (Ji 10 (Jc JZ (Jc Jl (Jc Jf (Ja 3) (Ja 6)) (Ja 9)) (Ja 7))) (Jg (Ji 11 (Jm (Jeg k) [] (Jb (Ja 0) (Jb (Ja 1) (Jb (Ja 5) (Jb (Jc Jf (Ja 2) (Ja 6)) (Jb (Ja 10) (Jb (Ja 6) Jd)))))))) (sFor (Jx (Jm (Ye k) [] (Jb (Ja 2) (Jb (Ja 3) (Jb (Ja 9) Jd))))) (gNm 12) (Jg (Ji 13 (Jm (Jeg k) [] (Jb (Ja 0) (Jb (Ja 1) (Jb (Ja 5) (Jb (Jc Jf (Ja 2) (Ja 12)) (Jb (Jc Jf (Ja 3) (Ja 12)) (Jb (Ja 12) Jd)))))))) (sIf (JX (Jh asB (Jc cNe (Ja 12) (Ja 6))) (Jh asB (Jc cLtX (Ja 13) (Ja 11)))) (Jj (eC (.bl Zj))) Jp)))))) (Jj (eC (.bl Zg)))))
theorem Jlp:Jbx (k+1) [x0,x1,x2,x3,x4] h=(Jjk k [Za x0,Za x1,Za x2,Za x3,Za x4,Zc,Zc,Zc,Zc,Zc,Zc,Zc,Zc,Zc] h).fin:=by kernel_rfl
def Joi:S1:=(Jg (sAsg (Ja 7) (gTp 3 (gC (gNm 8) (gC (gNm 9) (gC (gNm 10) gN))))) (Jg (sIf (JB (Jh asB (JW cLe cLt (eC (.int 0)) (Ja 8) (eCB (on1 lenI) (Jb (Ja 4) Jd))))) (Jj (eC (.bl Zj))) Jp) (Jg (sIf (tOrI (Jh asB (Jc cLt (Ja 9) (Ja 6))) (Jh asB (Jc cLe (Ja 10) (Ja 9)))) (Jj (eC (.bl Zj))) Jp) (Jg (sIf (Jh asB (Jc cLt (Ja 9) (Jc Jl (Jc Jf (Jc Jf (Ja 4) (Ja 8)) (eC (.int 1))) (Jc Jf (Jc Jf (Ja 4) (Ja 8)) (eC (.int 2)))))) (Jj (eC (.bl Zj))) Jp) (Jg (sIf (Jh asB (Jc cGt (Jc JZ (Jc Jl (Jc Jf (Ja 5) (Ja 8)) (Ja 10)) (Ja 9)) (Jc Jf (Jc Jf (Ja 4) (Ja 8)) (eC (.int 3))))) (Jj (eC (.bl Zj))) Jp) (Jg (sIf (JX (Jh asB (Jc cLt (Ja 6) (Ja 9))) (Jh asB (Jc cNe (Jm (Ye k) [] (Jb (Ja 4) (Jb (Ja 5) (Jb (Jc JZ (Ja 9) (eC (.int 1))) Jd)))) (Jw Jd)))) (Jj (eC (.bl Zj))) Jp) (Jg (sIf (JB (Jh tru (Jm (Jbx k) [] (Jb (Ja 1) (Jb (Ja 2) (Jb (Ja 4) (Jb (Ja 5) (Jb (Ja 7) Jd)))))))) (Jj (eC (.bl Zj))) Jp) (Jg (VY .Add (Ja 5) (Ja 8) (Jc JZ (Ja 10) (Ja 9))) (Ji 6 (Ja 10))))))))))
def Jk9 (k:Nat):E1:=(Jc Jf (Ja 0) (eC (.int 3)))
def Jq1:S1:=Jg (Ji 4 (Jm (Jha k) [] (Jb (Ja 3) (Jb (Ja 2) Jd)))) (Jg (Ji 5 (J0 (Jx (Ja 4)) 1 [] (gNm 0) JF (eC (.int 0)))) (Jg (Ji 6 (eC (.int 0))) (Jg (sFor (Jx (Jm (Jxb k) [] (Jb (Jm (Jd1 k) [] (Jb (Ja 1) (Jb (Ja 2) Jd))) (Jb (eCB (on1 Vo) (Jb (Ja 4) Jd)) Jd)))) (gNm 7) (Joi k)) (Jj (Jc cEq (Ja 5) (J0 (Jx (Ja 4)) 1 [] (gNm 0) JF (Jk9 k)))))))
def Jxh:S1:=Jg (Ji 1 (Jc Ju (Jm (VL k) [] (Jb (Ja 0) (Jb (eC (.int 7)) Jd))) (eC (.int 3)))) (Jg (Ji 2 (Jm (Jft k) [] (Jb (Ja 0) (Jb (Jc cEq (Ja 1) (eC (.int 0))) Jd)))) (Jg (Ji 3 (eSl slI (Ja 0) (QH (eC (.int 8))) (QH (eC (.int 22))))) (Jg (sIf (Jh asB (Jc cEq (Jc Ju (Jc JI (Jm (VL k) [] (Jb (Ja 0) (Jb (eC (.int 7)) Jd))) (eC (.int 3))) (eC (.int 16))) (eC (.int 5)))) (Ji 3 (Jc Jl (Ja 3) (Jm (Yd k) [] (Jb (Jc JI (Jm (VL k) [] (Jb (Ja 0) (Jb (eC (.int 7)) Jd))) (eC (.int 48))) (Jb (eC (.int 40)) Jd))))) Jp) (Jq1 k))))
theorem J0a:X2 (k+1) [x0] h=(Jxh k [Za x0,Zc,Zc,Zc,Zc,Zc,Zc,Zc,Zc,Zc,Zc] h).fin:=by kernel_rfl
end
theorem Jbh (k:Nat):JG (pg k) "held" 0 "Work"=Za (Jdy k,[]):=by kernel_rfl
theorem Jd9 (k:Nat):JG (pg k) "next_ready" 0 "Bench"=Za (Jag k,[]):=by kernel_rfl
theorem Jho (k:Nat):JG (pg k) "let_in" 0 "Bench"=Za (Jbi k,[]):=by kernel_rfl
theorem Jfi (k:Nat):JG (pg k) "turns_for" 1 "Bench"=Za (Jam k,[]):=by kernel_rfl
theorem Jjw (k:Nat):JG (pg k) "tell" 2 "Bench"=Za (Jcn k,[]):=by kernel_rfl
theorem Jil (k:Nat):JG (pg k) "go_on" 0 "Bench"=Za (Jbr k,[]):=by kernel_rfl
theorem Jc8 (k:Nat):JG (pg k) "size" 0 "Duty"=Za (Jdw k,[]):=by kernel_rfl
theorem Jbg (k:Nat):JG (pg k) "work" 1 "Duty"=Za (Jdx k,[]):=by kernel_rfl
theorem Jf0 (k:Nat):JG (pg k) "rank_of" 2 "ByRank"=Za (Jat k,[]):=by kernel_rfl
theorem Jhp (k:Nat):JG (pg k) "holds" 2 "ByRank"=Za (Jbj k,[]):=by kernel_rfl
theorem Jin (k:Nat):JG (pg k) "pick" 3 "ByRank"=Za (X1 k,[]):=by kernel_rfl
theorem Jfj (k:Nat):JG (pg k) "standing" 2 "ByRank"=Za (Yb k,[]):=by kernel_rfl
theorem Jgl (k:Nat):JG (pg k) "rank_of" 2 "ByDue"=Za (Ja5 k,[]):=by kernel_rfl
theorem Jim (k:Nat):JG (pg k) "holds" 2 "ByDue"=Za (Jav k,[]):=by kernel_rfl
theorem Jjx (k:Nat):JG (pg k) "pick" 3 "ByDue"=Za (X1 k,[]):=by kernel_rfl
theorem Jfz (k:Nat):JG (pg k) "standing" 2 "ByDue"=Za (Yb k,[]):=by kernel_rfl
theorem Jea (k:Nat):JG (pg k) "rank_of" 2 "ByComing"=Za (Jah k,[]):=by kernel_rfl
theorem Jfy (k:Nat):JG (pg k) "holds" 2 "ByComing"=Za (Jav k,[]):=by kernel_rfl
theorem Jgk (k:Nat):JG (pg k) "pick" 3 "ByComing"=Za (X1 k,[]):=by kernel_rfl
theorem Jdl (k:Nat):JG (pg k) "standing" 2 "ByComing"=Za (Yb k,[]):=by kernel_rfl
end LW
section
open PySem L2 L3 L4
local macro_rules | `(tactic| simp! [$xs,*]) => `(tactic| simp (implicitDefEqProofs := Zj) only [YY, Xz, Jkw, YZ, YW, Nb, Jkx, YV, Vb, Jpk, YX, Jpl, XZ, Q2, Jv, Vy, Qm, Yp, Jty, Vv, Jv3, Jo4, Jv1, Jvv, YT, Jpj, Jkt, Jku, YG, Jkq, Jg4, YU, YQ, Jkr, Vx, Jvp, Xy, Jo7, Jg6, Jg7, Xe, YK, YD, Jpi, Jpb, YS, YI, YR, VJ, YF, Jvy, Jvw, Jvu, Jvt, Jvs, Jvz, Jo6, Jpc, Jo5, Jkv, Jpd, YJ, Jv0, JT, Vw, Xd, Jks, Jo8, Jpa, Jo9, Jph, Jg5, Zct, Zbw, Zaw, ZU, Zag, exists_eq_left, exists_eq_left', IV.bl.injEq, IV.int.injEq, IV.ref.injEq, IV.str.injEq, IX.lst.injEq, IV.tup.injEq, ZaI, Zcl, ZbW, reduceCtorEq, eq_self, true_implies, false_implies, implies_true, and_true, true_and, and_false, false_and, ZbH, Zbx, Zaa, YB, Y7, YC, Y8, Y9, YA, VO, VN, VQ, Vf, VP, V5, Xx, YL, Qc, JU, Qj, Qf, Vh, YO, YM, YN, $xs,*])
local macro_rules | `(tactic| simp_all! [$xs,*]) => `(tactic| try simp (implicitDefEqProofs := Zj) only [YY, Xz, Jkw, YZ, YW, Nb, Jkx, YV, Vb, Jpk, YX, Jpl, XZ, Q2, Jv, Vy, Qm, Yp, Jty, Vv, Jv3, Jo4, Jv1, Jvv, YT, Jpj, Jkt, Jku, YG, Jkq, Jg4, YU, YQ, Jkr, Vx, Jvp, Xy, Jo7, Jg6, Jg7, Xe, YK, YD, Jpi, Jpb, YS, YI, YR, VJ, YF, Jvy, Jvw, Jvu, Jvt, Jvs, Jvz, Jo6, Jpc, Jo5, Jkv, Jpd, YJ, Jv0, JT, Vw, Xd, Jks, Jo8, Jpa, Jo9, Jph, Jg5, Zct, Zbw, Zaw, ZU, Zag, exists_eq_left, exists_eq_left', IV.bl.injEq, IV.int.injEq, IV.ref.injEq, IV.str.injEq, IX.lst.injEq, IV.tup.injEq, ZaI, Zcl, ZbW, reduceCtorEq, eq_self, true_implies, false_implies, implies_true, and_true, true_and, and_false, false_and, ZbH, Zbx, Zaa, YB, Y7, YC, Y8, Y9, YA, VO, VN, VQ, Vf, VP, V5, Xx, YL, Qc, JU, Qj, Qf, Vh, YO, YM, YN, $xs,*])
local macro_rules | `(tactic| dsimp! [$xs,*]) => `(tactic| simp (implicitDefEqProofs := Zj) only [YY, Xz, Jkw, YZ, YW, Nb, Jkx, YV, Vb, Jpk, YX, Jpl, XZ, Q2, Jv, Vy, Qm, Yp, Jty, Vv, Jv3, Jo4, Jv1, Jvv, YT, Jpj, Jkt, Jku, YG, Jkq, Jg4, YU, YQ, Jkr, Vx, Jvp, Xy, Jo7, Jg6, Jg7, Xe, YK, YD, Jpi, Jpb, YS, YI, YR, VJ, YF, Jvy, Jvw, Jvu, Jvt, Jvs, Jvz, Jo6, Jpc, Jo5, Jkv, Jpd, YJ, Jv0, JT, Vw, Xd, Jks, Jo8, Jpa, Jo9, Jph, Jg5, Zct, Zbw, Zaw, ZU, Zag, $xs,*])
namespace LW
open PySem L2 L3 L4
section
variable {k:Nat}{h:IH}
theorem J2:1000000<sizeLine:=by decide
theorem VH (o o':IX):List.set (h++[o]) h.length o'=h++[o']:=by
 rw[ZcG _ _ (Zo _),Zde];rfl
theorem VZ (o o':IX)(g:IH):List.set (h++o::g) h.length o'=h++o'::g:=by
 rw[ZcG _ _ (Zo _),Zde];rfl
end
section
seal L4.run
section
variable {α β:Type}{σ:ISt}{h h1:IH}{N:ISt->IH->Prop}{R:IV->IH->Prop}{P:IV->IH->Prop}
theorem xb {f:α->IH->Res β}(x:WR r λ a h=>WR (f a h) Q):WR (r.bind f) Q:=(Jv ..).mpr x
theorem xseq (x:WS (a σ h) (λ σ1 h1=>WS (b σ1 h1) N R) R):WS (Jg a b σ h) N R:=(YY ..).mpr x
theorem xfin {r:SRes}(x:WS r (λ _ h=>P .non h) P):WR r.fin P:=(YJ ..).mpr x
theorem xset (x:WR (e σ h) λ v h1=>N (σ.set i (Za v)) h1):WS (Ji i e σ h) N R:=(YZ ..).mpr x
theorem xret (x:WR (e σ h) R):WS (Jj e σ h) N R:=(Nb ..).mpr x
theorem Qs {e:E1}(x:WR (e σ h) λ _ h1=>N σ h1):WS (JD e σ h) N R:=(YV ..).mpr x
theorem xif (x:WR (t σ h) λ c h1=>(c=Zg->WS (a σ h1) N R)/\(c=Zj->WS (b σ h1) N R)):WS (sIf t a b σ h) N R:=(YW ..).mpr x
theorem J2m (x:WR (a σ h) λ c h1=>(c=Zg->WR (b σ h1) Q)/\(c=Zj->Q Zj h1)):WR (JX a b σ h) Q:=(YT ..).mpr x
theorem xdec [Decidable p](x:p->a)(y:¬p->b):(decide p=Zg->a)/\(decide p=Zj->b):=⟨λ e=>x (of_decide_eq_true e),λ e=>y (of_decide_eq_false e)⟩
theorem xnil (x:N σ h):WS (Jp σ h) N R:=x
theorem xtup (x:WR (a σ h) λ xs h1=>xs.length<=sizeLine/\P (.tup xs) h1):WR (J8 a σ h) P:=(YU ..).mpr x
theorem xlst (x:WR (a σ h) λ xs h1=>xs.length<=sizeLine/\P (.ref h1.length) (h1++[.lst xs])):WR (Jw a σ h) P:=(YQ ..).mpr x
theorem xixl (g:h[i]?=Za (.lst xs))(e:atI xs n=Za x)(q:P x h):WR (Jf (.ref i) (.int n) h) P:=(Jtg ..).mpr ⟨_,g,_,e,q⟩
theorem xixt (e:atI xs n=Za x)(q:P x h):WR (Jf (.tup xs) (.int n) h) P:=(Xx ..).mpr ⟨_,e,q⟩
theorem J4q (g:h[i]?=Za (.lst xs))(q:P (.int xs.length) h):WR (lenI (.ref i) h) P:=(Jn2 ..).mpr ⟨_,g,q⟩
theorem xmod (l:0<j)(q:P (.int (i%j)) h):WR (Ju (.int i) (.int j) h) P:=(YR ..).mpr ⟨l,q⟩
theorem J4p (l:0<j/\j.natAbs.log2<9000)(q:P (.int (i/j)) h):WR (JI (.int i) (.int j) h) P:=(YI ..).mpr ⟨l,q⟩
theorem xmul (l:Vc i j)(q:P (.int (i*j)) h):WR (Qy (.int i) (.int j) h) P:=(YS ..).mpr ⟨l,q⟩
theorem fldE (ho:o σ h=.ok (.ref i) h1)(g:h1[i]?=Za (.ins c fs))(l:fs.lookup f=Za x):Jq f o σ h=.ok x h1:=by
 refine Js ?_
 rw[YK,ho]
 exact⟨x,(Qg g).trans l,rfl,rfl⟩
theorem binE (ea:a σ h=.ok x h1)(eb:b σ h1=.ok y h2):Jc f a b σ h=f x y h2:=by unfold Jc;rw[ea];dsimp only[Res.bind];rw[eb]
theorem arg1 (ea:a σ h=.ok x h1):Jb a Jd σ h=.ok [x] h1:=by unfold Jb;rw[ea];rfl
theorem arg2 (ea:a σ h=.ok x h1)(eb:b σ h1=.ok y h2):Jb a (Jb b Jd) σ h=.ok [x,y] h2:=by unfold Jb;rw[ea];dsimp only[Res.bind];rw[eb];rfl
theorem cbE (ea:a σ h=.ok xs h1):eCB f a σ h=f xs h1:=by unfold eCB;rw[ea];rfl
theorem JN (ea:a σ h=.ok xs h1)(ef:f (xs++d) h1=.ok v h2):Jm f d a σ h=.ok v h2:=by unfold Jm;rw[ea];exact ef
theorem tofE (ea:a σ h=.ok (.bl c) h1):Jh asB a σ h=.ok c h1:=by unfold Jh;rw[ea];rfl
theorem lenE (ea:a σ h=.ok (.ref i) h1)(g:h1[i]?=Za (.lst xs)):eCB (on1 lenI) (Jb a Jd) σ h=.ok (.int xs.length) h1:=by
 rw[cbE (arg1 ea)]
 exact Js (J4q g ⟨rfl,rfl⟩)
theorem ixlE (ea:a σ h=.ok (.ref i) h1)(eb:b σ h1=.ok (.int n) h2)(g:h2[i]?=Za (.lst xs))(e:atI xs n=Za x):Jc Jf a b σ h=.ok x h2:=by
 rw[binE ea eb]
 exact Js (xixl g e ⟨rfl,rfl⟩)
theorem ixtE (ea:a σ h=.ok (.tup xs) h1)(eb:b σ h1=.ok (.int n) h2)(e:atI xs n=Za x):Jc Jf a b σ h=.ok x h2:=by
 rw[binE ea eb]
 exact Js (xixt e ⟨rfl,rfl⟩)
theorem gtE (ea:a σ h=.ok (.int i) h1)(eb:b σ h1=.ok (.int j) h2):Jh asB (Jc cGt a b) σ h=.ok (decide (j<i)) h2:=tofE (binE ea eb)
theorem leE (ea:a σ h=.ok (.int i) h1)(eb:b σ h1=.ok (.int j) h2):Jh asB (Jc cLe a b) σ h=.ok (decide (i<=j)) h2:=tofE (binE ea eb)
theorem ltE (ea:a σ h=.ok (.int i) h1)(eb:b σ h1=.ok (.int j) h2):Jh asB (Jc cLt a b) σ h=.ok (decide (i<j)) h2:=tofE (binE ea eb)
theorem geE (ea:a σ h=.ok (.int i) h1)(eb:b σ h1=.ok (.int j) h2):Jh asB (Jc cGe a b) σ h=.ok (decide (j<=i)) h2:=tofE (binE ea eb)
theorem eqE (ea:a σ h=.ok (.int i) h1)(eb:b σ h1=.ok (.int j) h2):Jh asB (Jc cEq a b) σ h=.ok (decide (i=j)) h2:=tofE (binE ea eb)
theorem addE (ea:a σ h=.ok (.int i) h1)(eb:b σ h1=.ok (.int j) h2):Jc Jl a b σ h=.ok (.int (i+j)) h2:=binE ea eb
theorem subE (ea:a σ h=.ok (.int i) h1)(eb:b σ h1=.ok (.int j) h2):Jc JZ a b σ h=.ok (.int (i-j)) h2:=binE ea eb
theorem arg3 (ea:a σ h=.ok x h1)(eb:b σ h1=.ok y h2)(ec:c σ h2=.ok z h3):Jb a (Jb b (Jb c Jd)) σ h=.ok [x,y,z] h3:=by
 rw[show Jb a (Jb b (Jb c Jd)) σ h=(a σ h).bind λ x h1=>(Jb b (Jb c Jd) σ h1).bind λ xs h2=>.ok (x::xs) h2 from rfl,ea]
 show(Jb b (Jb c Jd) σ h1).bind _=_
 rw[arg2 eb ec]
 rfl
theorem arg4 (ea:a σ h=.ok x h1)(eb:b σ h1=.ok y h2)(ec:c σ h2=.ok z h3)(ed:d σ h3=.ok u h4):Jb a (Jb b (Jb c (Jb d Jd))) σ h=.ok [x,y,z,u] h4:=by
 rw[show Jb a (Jb b (Jb c (Jb d Jd))) σ h=(a σ h).bind λ x h1=>(Jb b (Jb c (Jb d Jd)) σ h1).bind λ xs h2=>.ok (x::xs) h2 from rfl,ea]
 show(Jb b (Jb c (Jb d Jd)) σ h1).bind _=_
 rw[arg3 eb ec ed]
 rfl
theorem modE (ea:a σ h=.ok (.int i) h1)(eb:b σ h1=.ok (.int j) h2)(l:0<j):Jc Ju a b σ h=.ok (.int (i%j)) h2:=(binE ea eb).trans (Js (xmod l ⟨rfl,rfl⟩))
theorem Qk (ea:a σ h=.ok (.int i) h1)(eb:b σ h1=.ok (.int j) h2)(l:0<j)(z:j.natAbs.log2<9000):Jc JI a b σ h=.ok (.int (i/j)) h2:=(binE ea eb).trans (Js (J4p ⟨l,z⟩ ⟨rfl,rfl⟩))
theorem mulE (ea:a σ h=.ok (.int i) h1)(eb:b σ h1=.ok (.int j) h2)(l:Vc i j):Jc Qy a b σ h=.ok (.int (i*j)) h2:=(binE ea eb).trans (Js (xmul l ⟨rfl,rfl⟩))
theorem lstE (ea:a σ h=.ok xs h1)(l:Nat.ble xs.length 1000=Zg):Jw a σ h=.ok (.ref h1.length) (h1++[.lst xs]):=Js (xlst (Je ea ⟨ZY (ZdT l) (ZY (by decide) (ZbZ J2)),rfl,rfl⟩))
theorem tupE (ea:a σ h=.ok xs h1)(l:Nat.ble xs.length 1000=Zg):J8 a σ h=.ok (.tup xs) h1:=Js (xtup (Je ea ⟨ZY (ZdT l) (ZY (by decide) (ZbZ J2)),rfl,rfl⟩))
theorem pkE (ea:a σ h=.ok xs h1)(l:Nat.ble xs.length 1000=Zg)(eb:b σ (h1++[.lst xs])=.ok (.int n) (h1++[.lst xs]))(e:atI xs n=Za x):Jc Jf (Jw a) b σ h=.ok x (h1++[.lst xs]):=ixlE (lstE ea l) eb Jk e
theorem maxE (ea:a σ h=.ok (.int i) h1)(eb:b σ h1=.ok (.int j) h2):eCB (on2 maxI) (Jb a (Jb b Jd)) σ h=.ok (.int (if j>i then j else i)) h2:=cbE (arg2 ea eb)
theorem minE (ea:a σ h=.ok (.int i) h1)(eb:b σ h1=.ok (.int j) h2):eCB (on2 minI) (Jb a (Jb b Jd)) σ h=.ok (.int (if j<i then j else i)) h2:=cbE (arg2 ea eb)
theorem dotE {Pg:Pg}{m c:Str}{n i:Nat}{o:E1}{a:A1}{fs:List (Str×IV)}{f:List IV->IH->Res IV}{d xs:List IV}{h2 h3:IH}{v:IV}(e:o σ h=.ok (.ref i) h1)(hi:h1[i]?=Za (.ins c fs))(hf:fs.lookup m=Zc)(hd:JG Pg m n c=Za (f,d))(ha:a σ h1=.ok xs h2)(hx:f (.ref i::(xs++d)) h2=.ok v h3):Jo Pg m n o a σ h=.ok v h3:=by
 refine Js ((Qr e hi hf hd).mpr (Je ha (Je hx ⟨rfl,rfl⟩)))
theorem xifd [Decidable p](e:t σ h=.ok (decide p) h1)(x:p->WS (a σ h1) N R)(y:¬p->WS (b σ h1) N R):WS (sIf t a b σ h) N R:=xif (Je e (xdec x y))
theorem xiff (e:t σ h=.ok Zj h1)(x:WS (b σ h1) N R):WS (sIf t a b σ h) N R:=xif (Je e ⟨(λ z=>by cases z),λ _=>x⟩)
theorem xift (e:t σ h=.ok Zg h1)(x:WS (a σ h1) N R):WS (sIf t a b σ h) N R:=xif (Je e ⟨λ _=>x,λ z=>by cases z⟩)
theorem xnx (e:r=.next σ1 h1)(x:N σ1 h1):WS r N R:=by rw[e];exact x
theorem xfor (x:WR (it σ h) λ J h1=>WS (Qd J.chk g b J.xs σ h1) N R):WS (sFor it g b σ h) N R:=(XZ ..).mpr x
theorem okc {α:Type}{r:Res α}{c d:α}(e:r=.ok c h)(q:c=d):r=.ok d h:=q▸e
theorem notE (e:a σ h=.ok c h1):JB a σ h=.ok (!c) h1:=by unfold JB;rw[e];rfl
theorem truE (e:a σ h=.ok (.bl c) h1):Jh tru a σ h=.ok c h1:=by unfold Jh;rw[e];rfl
theorem orF (e:a σ h=.ok Zj h1)(eb:b σ h1=r):tOrI a b σ h=r:=by unfold tOrI;rw[e];exact eb
theorem andT (e:a σ h=.ok Zg h1)(eb:b σ h1=r):JX a b σ h=r:=by unfold JX;rw[e];exact eb
theorem andF (e:a σ h=.ok Zj h1):JX a b σ h=.ok Zj h1:=by unfold JX;rw[e];rfl
theorem J20 (e:a σ h=.ok (.bl Zg) h1)(eb:b σ h1=r):eAnd a b tru σ h=r:=by unfold eAnd;rw[e];exact eb
theorem chT (ea:a σ h=.ok (.int i) h1)(eb:b σ h1=.ok (.int j) h2)(ec:c σ h2=.ok (.int l) h3)(t1:i<=j)(t2:j<l):JW cLe cLt a b c σ h=.ok (.bl Zg) h3:=by
 unfold JW
 rw[ea]
 dsimp only[Res.bind]
 rw[eb]
 show(match IV.bl (decide (i<=j)) with|.bl Zg=>_|.bl Zj=>_|_=>_)=_
 rw[decide_eq_true t1]
 show(c σ h2).bind _=_
 rw[ec]
 show Res.ok (IV.bl (decide (j<l))) h3=_
 rw[decide_eq_true t2]
theorem xrng {e:E1}{g:G1}{b:S1}{n:Nat}(ee:e σ h=.ok (.int (n:Int)) h1)(l:n<1000000)(x:WS (Qd (λ _=>True) g b (rngI 0 (n:Int)) σ h1) N R):WS (sFor (iRg Q6 (Jb e Jd)) g b σ h) N R:=by
 rw[XZ,Vw]
 refine Je (arg1 ee) ?_
 rw[Xd]
 exact⟨by omega,x⟩
theorem J02 (ea:a σ h=.ok (.ref i) h1)(g:h1[i]?=Za (.lst xs)):eCB (on1 Vo) (Jb a Jd) σ h=.ok (.ref h1.length) (h1++[.lst xs]):=by
 rw[cbE (arg1 ea)]
 exact Js ((Jvx ..).mpr ⟨_,g,rfl,rfl⟩)
theorem V0 (ev:e σ h=.ok v h1)(eo:o σ h1=.ok (.ref i) h1)(g:h1[i]?=Za (.ins c fs))(l:fs.length<1000)(q:N σ (h1.set i (.ins c (putI f v fs)))):WS (JR f o e σ h) N R:=by
 rw[Xf]
 exact Je ev (Je eo ⟨i,c,fs,rfl,g,l,q⟩)
theorem J4o (eo:o σ h=.ok (.ref i) h1)(g:h1[i]?=Za (.ins c fs))(l:fs.lookup f=Za (.int a))(ee:e σ h1=.ok (.int b) h2)(g2:h2[i]?=Za (.ins c gs))(z:gs.length<1000)(q:N σ (h2.set i (.ins c (putI f (.int (a+b)) gs)))):WS (XQ .Add f o e σ h) N R:=by
 unfold XQ
 rw[eo]
 simp only[rS,g,l,ee,L4.ipI,g2,z,if_true]
 exact q
theorem J2l (eo:o σ h=.ok (.ref i) h1)(ek:k σ h1=.ok (.int n) h2)(g:h2[i]?=Za (.lst xs))(ea:atI xs n=Za (.int a))(n0:0<=n)(ee:e σ h2=.ok (.int b) h3)(g3:h3[i]?=Za (.lst ys))(ej:ixN ys.length n=Za j)(q:N σ (h3.set i (.lst (ys.set j (.int (a+b)))))):WS (VY .Add o k e σ h) N R:=by
 unfold VY
 rw[eo]
 simp only[rS,ek,ixL,g,ea,n0,if_true,ee,L4.ipI,setI,g3,ej]
 exact q
theorem Vz {Pg:Pg}{m c:Str}{n i:Nat}{o:E1}{a:A1}{fs:List (Str×IV)}{f:List IV->IH->Res IV}{d:List IV}(e:o σ h=.ok (.ref i) h1)(hi:h1[i]?=Za (.ins c fs))(hf:fs.lookup m=Zc)(hd:JG Pg m n c=Za (f,d))(x:WR (a σ h1) λ vs h2=>WR (f (.ref i::(vs++d)) h2) P):WR (Jo Pg m n o a σ h) P:=(Qr e hi hf hd).mpr x
theorem QP {Pg:Pg}{m:Str}{n i:Nat}{o:E1}{a:A1}{xs:List IV}{g:IV->List IV->IH->Res IV}(e:o σ h=.ok (.ref i) h1)(hl:h1[i]?=Za (.lst xs))(hg:bmOf "list" m n=Za g)(x:WR (a σ h1) λ vs h2=>WR (g (.ref i) vs h2) P):WR (Jo Pg m n o a σ h) P:=(Jzl e hl hg).mpr x
theorem xapp (g:h[i]?=Za (.lst xs))(l:xs.length<sizeLine)(q:P .non (h.set i (.lst (xs++[y])))):WR (Xh (.ref i) [y] h) P:=(Jtb ..).mpr ⟨_,g,l,q⟩
theorem xpop (g:h[i]?=Za (.lst xs))(l:xs[xs.length-1]?=Za y)(q:P y (h.set i (.lst xs.dropLast))):WR (XI (.ref i) [] h) P:=by
 have e:VX (.ref i) h=Za (i,xs):=by unfold VX;simp only[g]
 unfold XI
 rw[e]
 dsimp only
 rw[l]
 exact q
theorem xrem {i j:Nat}{k:Int}{ns:List Int}(g:h[i]?=Za (.lst (ns.map .int)))(l:ns.findIdx? (· ==k)=Za j)(q:P .non (h.set i (.lst ((ns.map IV.int).eraseIdx j)))):WR (XL (.ref i) [.int k] h) P:=by
 have e:VX (.ref i) h=Za (i,ns.map .int):=by unfold VX;simp only[g]
 unfold XL
 rw[e]
 dsimp only
 rw[V8]
 dsimp only
 rw[l]
 exact q
theorem Jq3:bmOf "list" "pop" 0=Za XI:=by kernel_rfl
theorem Jq4:bmOf "list" "remove" 1=Za XL:=by kernel_rfl
end
end
section
variable {k:Nat}{h:IH}
theorem Jjs (ns:List Int)(n:Int)(hn:0<=n):VL (k+1) [.rol (ns.map .int),.int n] h=.ok (.int (ns.getD n.toNat 0)) h:=by
 refine Js ?_
 rw[Jit]
 simp! [Jcx,Jcy,Zi,decide_eq_true_eq,decide_eq_false_iff_not]
 refine⟨λ hl=>⟨.int (ns.getD n.toNat 0),Jmy hn ?_,rfl⟩,λ hl=>?_⟩
 ·rw[Zv,Zk,Zb (show n.toNat<ns.length by omega)]
  rfl
 ·rw[Zk,ZaJ (by omega)]
  rfl
end
section
seal L4.run
section
variable {k:Nat}{h:IH}
theorem Jge (i:Int):Jc9 (k+1) [.int i] h=.ok (.bl Zg) h:=by rw[Jna];rfl
theorem Jf7 (i j:Int):V1 (k+2) [.int i,.int j] h=.ok (.bl (decide (j<=i))) h:=by
 refine Js ?_
 rw[Jgo]
 simp! [Jbo,Jge]
def IsNm (x:Str):Prop:=1<=x.length/\x.length<=8/\∀c∈x.cps.toList,97<=c/\c<=122
theorem J2q:(Za0 "a").cps.toList=[97]:=by decide +kernel
theorem J4r:(Za0 "z").cps.toList=[122]:=by decide +kernel
theorem Jy5 (hc:97<=c/\c<=122):Jby k [Za (.str ⟨#[c]⟩)] h=.ok (.bl Zg) h:=by
 refine Js ?_
 have h1:¬([c]<[97]):=λ q=>by
  cases q with
  | rel q=>omega
  | cons q=>cases q
 have h2:¬([122]<[c]):=λ q=>by
  cases q with
  | rel q=>omega
  | cons q=>cases q
 simp only[Jby,YG,Qm,Yp,Vy,J2j,J2q,J4r,h1,h2,decide_false,exists_eq_left,exists_eq_left',IV.bl.injEq,IV.int.injEq,IV.ref.injEq,IV.str.injEq,IX.lst.injEq,IV.tup.injEq,ZaI,Zcl,ZbW,reduceCtorEq,eq_self,true_implies,false_implies,implies_true,and_true,true_and,and_false,false_and,ZbH,Zbx,Zaa,YB,Y7,YC,Y8,Y9,YA,VO,VN,VQ,Vf,VP,V5,Xx,YL,Qc,JU,Qj,Qf,Vh,YO,YM,YN]
theorem Ji8 (hx:IsNm x):WR (Jef (k+1) [.str x] h) λ v h'=>v=.bl Zg/\Ex h h':=by
 obtain⟨h1,h2,h3⟩:=hx
 have hb:=J2
 have hz:x.length<=sizeLine:=by omega
 have a1:(1:Int)<=x.length:=by omega
 have a2:(x.length:Int)<=8:=by omega
 rw[Jpw]
 simp! [Jhi,Jhj,hz,a1,a2,decide_true]
 refine WR.mono (Qh (xs:=Vs x) (chk:=λ _=>True) (f:=λ _=>.bl Zg) (h:=h) ?_ ?_ (λ _ _=>trivial) ?_) ?_
 ·exact⟨rfl,rfl,rfl⟩
 ·have:(Vs x).length=x.length:=by simp[Vs,Zeo]
  omega
 ·intro v hv h2 _
  obtain⟨c,hc,rfl⟩:=ZC.mp hv
  exact Je (Jy5 (h3 c hc)) ⟨rfl,.refl _⟩
 ·rintro v h' ⟨rfl,g,rfl⟩
  refine Je (all_map (f:=λ _=>Zg) Jz) ⟨?_,.cons ..⟩
  simp
abbrev Hd:=Str×Int×Int
def tupH (a:Hd):IV:=.tup [.str a.1,.int a.2.1,.int a.2.2]
def HdOk (len:Int)(a:Hd):Prop:=IsNm a.1/\0<=a.2.1/\a.2.1<a.2.2/\a.2.2<len
def Tog (a b:Hd):Prop:=a.2.2<=b.2.1∨b.2.2<=a.2.1∨(a.1≠b.1/\((b.2.1<=a.2.1/\a.2.2<=b.2.2)∨(a.2.1<=b.2.1/\b.2.2<=a.2.2)))
theorem Jp4 (ha:HdOk len a):WR (Jg9 (k+3) [tupH a,.int len] h) λ v h'=>v=.bl Zg/\Ex h h':=by
 obtain⟨h1,h2,h3,h4⟩:=ha
 rw[Jpv]
 have h5:a.2.1+1<=a.2.2:=by omega
 simp! [Jhf,Jhg,Jhh,tupH,ZB,ZaM,Jf7]
 refine⟨λ q=>absurd q (by decide),λ _=>WR.mono (Ji8 h1) ?_⟩
 rintro v h' ⟨rfl,x⟩
 simp! [decide_eq_true h2,decide_eq_true h4,decide_eq_true h5]
 exact x
theorem Jl2 (a b:Hd):Jd4 (k+1) [tupH a,tupH b] h=.ok (.bl (decide (a.2.2<=b.2.1)||decide (b.2.2<=a.2.1))) h:=by
 refine Js ?_
 rw[Jlv]
 simp! [Jew,tupH]
 cases decide (a.2.2<=b.2.1)<;>simp
theorem Jp6 (a b:Hd):Jeh (k+1) [tupH a,tupH b] h=.ok (.bl (decide (b.2.1<=a.2.1)&&decide (a.2.2<=b.2.2))) h:=by
 refine Js ?_
 rw[Jpz]
 simp! [Jhk,tupH]
 cases decide (b.2.1<=a.2.1)<;>simp
theorem Jiv (t:Tog a b):Jbw (k+2) [tupH a,tupH b] h=.ok (.bl Zg) h:=by
 refine Js ?_
 rw[Jis]
 have ix:∀a:Hd,WR (Jf (tupH a) (.int 0) h)=λ P=>P (.str a.1) h:=λ a=>by
  funext P
  simp only[tupH,Xx,exists_eq_left,exists_eq_left',IV.bl.injEq,IV.int.injEq,IV.ref.injEq,IV.str.injEq,IX.lst.injEq,IV.tup.injEq,ZaI,Zcl,ZbW,reduceCtorEq,eq_self,true_implies,false_implies,implies_true,and_true,true_and,and_false,false_and,ZbH,Zbx,Zaa,YB,Y7,YC,Y8,Y9,YA,VO,VN,VQ,Vf,VP,V5,Xx,YL,Qc,JU,Qj,Qf,Vh,YO,YM,YN]
 simp! [Jcu,Jcv,Jcw,Jl2,Jp6,ix]
 unfold Tog at t
 simp only[Za1,ZcR,Zq,Bool.and_eq_false_iff,decide_eq_true_eq,decide_eq_false_iff_not]
 grind
theorem Jnz {hs:List Hd}{i:Nat}(hi:h[i]?=Za (.lst (hs.map tupH)))(hl:hs.length<=6)(ht:∀m n (hm:m<n)(hn:n<hs.length),Tog hs[n] hs[m]) :
  WR (Jan (k+3) [.ref i] h) λ v h'=>v=.bl Zg/\Ex h h':=by
 have hb:=J2
 rw[Jfm]
 simp! [Ja6,Ja7,Jn1,hi]
 refine Qn (λ n σ h'=>(∃a b,σ=[Za (.ref i),a,b])/\Ex h h') (λ n σ h' ⟨_,x⟩=>x.get hi) ?_ ?_ ⟨⟨_,_,rfl⟩,.refl h⟩
 ·rintro n hn _ h' ⟨⟨a,b,rfl⟩,x⟩
  have hn':n<hs.length:=by rw[VU,Zi] at hn;exact hn
  rw[Jm7]
  simp! [ZJ,J2k,J4i,J4j,ZB,ZaM,Jau]
  have hi':=x.get hi
  refine WR.mono (Qh (xs:=(hs.map tupH).take n) (chk:=λ h2=>h2[h'.length]?=Za (.lst ((hs.map tupH).take n))) (f:=λ _=>.bl Zg) (h:=h'++[.lst ((hs.map tupH).take n)]) ?_ ?_ ?_ ?_) ?_
  ·simp! [Jpg,hi',JK,Job,Jk]
  ·simp only[Zbs,Zi];omega
  ·exact λ h2 q=>q _ _ Jk
  ·intro v hv h2 q
   obtain⟨j,hj,rfl⟩:=Zax.mp hv
   have hj':j<n:=by simp at hj;omega
   simp! [List.getElem_take,ZJ,Jas,Z4,Za6,Za9,ZaA,ZbI]
   exact Je (Jiv (ht j n hj' hn')) ⟨rfl,.refl _⟩
  ·rintro v h3 ⟨rfl,g,rfl⟩
   refine Je (all_map (f:=λ _=>Zg) Jz) ?_
   have:(((hs.map tupH).take n).all λ _=>Zg)=Zg:=by simp
   simp! [this]
   exact⟨⟨_,_,rfl⟩,x.trans ((Ex.one _ _).trans (.cons ..))⟩
 ·rintro _ h' ⟨⟨a,b,rfl⟩,x⟩
  exact x
structure HsOk (len:Int)(hs:List Hd):Prop where
 few:hs.length<=6
 each:∀a∈hs,HdOk len a
 tog:∀m n (hm:m<n)(hn:n<hs.length),Tog hs[n] hs[m]
theorem Jl5 {hs:List Hd}(hi:h[i]?=Za (.lst (hs.map tupH)))(ok:HsOk len hs) :
  WR (Yg (k+4) [.ref i,.int len] h) λ v h'=>v=.tup (hs.map tupH)/\Ex h h':=by
 have hb:=J2
 have hl:=ok.few
 have h6:¬(6:Int)<(hs.length:Int):=by omega
 rw[Jlx]
 simp! [Jex,Jey,Jez,Je0,J2i,isI,Jw4 hi,Jn2,hi,Zi,h6,decide_false]
 refine WR.mono (Qh (xs:=hs.map tupH) (chk:=λ h2=>h2[i]?=Za (.lst (hs.map tupH))) (f:=λ _=>.bl Zg) (h:=h) ?_ ?_ ?_ ?_) ?_
 ·simp! [JK,hi]
 ·simp only[Zi];omega
 ·exact λ h2 q=>q _ _ hi
 ·intro v hv h2 q
  obtain⟨a,ha,rfl⟩:=ZC.mp hv
  simp! [Jc2,Z4,Za6,Za9,ZaA,ZbI]
  exact Jp4 (ok.each a ha)
 ·rintro v h1 ⟨rfl,g,rfl⟩
  refine Je (all_map (f:=λ _=>Zg) Jz) ?_
  have:((hs.map tupH).all λ _=>Zg)=Zg:=by simp
  simp! [this,Je1,Je2]
  have x1:Ex h (h++IX.lst (List.map (λ x=>IV.bl Zg) (hs.map tupH))::g):=.cons ..
  refine WR.mono (Jnz (x1.get hi) hl ok.tog) ?_
  rintro v h2 ⟨rfl,x2⟩
  simp! [true_and]
  have hi2:=x2.get (x1.get hi)
  refine WR.mono (Qh (xs:=hs.map tupH) (chk:=λ h3=>h3[i]?=Za (.lst (hs.map tupH))) (f:=λ x=>x) (h:=h2) ?_ ?_ ?_ ?_) ?_
  ·simp! [JK,hi2]
  ·simp only[Zi];omega
  ·exact λ h2 q=>q _ _ hi2
  ·intro v hv h3 q
   obtain⟨a,ha,rfl⟩:=ZC.mp hv
   simp! [Jc3,tupH,ZB,ZaM]
   exact⟨by omega,.refl _⟩
  ·rintro v h3 ⟨rfl,g3,rfl⟩
   simp only[Jtj,Jz,exists_eq_left,exists_eq_left',IV.bl.injEq,IV.int.injEq,IV.ref.injEq,IV.str.injEq,IX.lst.injEq,IV.tup.injEq,ZaI,Zcl,ZbW,reduceCtorEq,eq_self,true_implies,false_implies,implies_true,and_true,true_and,and_false,false_and,ZbH,Zbx,Zaa,YB,Y7,YC,Y8,Y9,YA,VO,VN,VQ,Vf,VP,V5,Xx,YL,Qc,JU,Qj,Qf,Vh,YO,YM,YN,Ze1]
   exact x1.trans (x2.trans (.cons ..))
theorem Jqd (h1:1<=due)(h2:due<=gap):Yf (k+3) [.int due,.int gap] h=.ok (.int due) h:=by
 refine Js ?_
 rw[Jp0]
 have:¬gap<due:=by omega
 simp! [Jhl,Jhm,Jhn,J2i,isI,Jf7,decide_eq_true h1,decide_eq_false this]
def wfs (name:Str)(gap len due late:Int)(hs:List IV):List (Str×IV):=[("name",.str name),("gap",.int gap),("length",.int len),("due",.int due),("late",.int late),("hold_tuples",.tup hs)]
section
variable (a b c d e f:IV)
theorem put0:putI "name" a ([]:List (Str×IV))=([("name",a)]:List (Str×IV)):=by kernel_rfl
theorem put1:putI "gap" b ([("name",a)]:List (Str×IV))=([("name",a),("gap",b)]:List (Str×IV)):=by kernel_rfl
theorem put2:putI "length" c ([("name",a),("gap",b)]:List (Str×IV))=([("name",a),("gap",b),("length",c)]:List (Str×IV)):=by kernel_rfl
theorem put3:putI "due" d ([("name",a),("gap",b),("length",c)]:List (Str×IV))=([("name",a),("gap",b),("length",c),("due",d)]:List (Str×IV)):=by kernel_rfl
theorem put4:putI "late" e ([("name",a),("gap",b),("length",c),("due",d)]:List (Str×IV))=([("name",a),("gap",b),("length",c),("due",d),("late",e)]:List (Str×IV)):=by kernel_rfl
theorem put5:putI "hold_tuples" f ([("name",a),("gap",b),("length",c),("due",d),("late",e)]:List (Str×IV))=([("name",a),("gap",b),("length",c),("due",d),("late",e),("hold_tuples",f)]:List (Str×IV)):=by kernel_rfl
variable {name:Str}{gap len due late:Int}{hs:List IV}
theorem fl0:(wfs name gap len due late hs).lookup ("name":Str)=Za (.str name):=by kernel_rfl
theorem fl1:(wfs name gap len due late hs).lookup ("gap":Str)=Za (.int gap):=by kernel_rfl
theorem fl2:(wfs name gap len due late hs).lookup ("length":Str)=Za (.int len):=by kernel_rfl
theorem fl3:(wfs name gap len due late hs).lookup ("due":Str)=Za (.int due):=by kernel_rfl
theorem fl4:(wfs name gap len due late hs).lookup ("late":Str)=Za (.int late):=by kernel_rfl
theorem fl5:(wfs name gap len due late hs).lookup ("hold_tuples":Str)=Za (.tup hs):=by kernel_rfl
theorem flh:(wfs name gap len due late hs).lookup ("held":Str)=Zc:=by kernel_rfl
end
theorem Jta {gap len due late:Int}{dv hv:IV}{hs:List IV}(hw:h[w]?=Za (.ins "Work" []))(hn:IsNm name)(hg:1<=gap)(hl:1<=len)(ht:0<=late) 
  (hd:∀h1,Yf (k+4) [dv,.int gap] h1=.ok (.int due) h1)(hh:∀h1:IH,(∀(j:Nat)(o:IX),j≠w->h[j]?=Za o->h1[j]?=Za o)->WR (Yg (k+4) [hv,.int len] h1) λ v h2=>v=.tup hs/\Ex h1 h2) :
  WR (Jbu (k+5) [.ref w,.str name,.int gap,.int len,dv,.int late,hv] h) λ v h'=>v=.non/\∃g,h'=h.set w (.ins "Work" (wfs name gap len due late hs))++g:=by
 rw[Jln]
 refine xfin (xseq (xif (xb (xb (xb (Je (arg1 rfl) (WR.mono (Ji8 hn) ?_)))))))
 rintro v h1 ⟨rfl,g1,rfl⟩
 have lw:=JC hw
 have s1:∀{o:IX},(h++g1).set w o=h.set w o++g1:=by intro o;rw[Zay (h:=lw)]
 have at1:∀{o:IX},(h.set w o++g1)[w]?=Za o:=by
  intro o
  rw[ZE (by rw[Zbo];exact lw),ZL lw]
 have s2:∀{o o':IX},(h.set w o++g1).set w o'=h.set w o'++g1:=by intro o o';rw[Zay (h:=by rw[Zbo];exact lw),ZdN]
 have ok:∀{σ:ISt}{e1 e2:E1}{a b:Int}{hh:IH},e1 σ hh=.ok (.int a) hh->e2 σ hh=.ok (.int b) hh->b<=a->JB (Jh tru (Jm (V1 (k+4)) [] (Jb e1 (Jb e2 Jd)))) σ hh=.ok Zj hh:=λ h1 h2 l=>okc (notE (truE (JN (arg2 h1 h2) (Jf7 _ _)))) (by rw[decide_eq_true l];rfl)
 refine Je rfl (Je rfl ⟨(λ z=>by cases z),λ _=>xnil (xseq (xiff (ok rfl rfl hg) (xnil (xseq (xiff (ok rfl rfl hl) (xnil (xseq (xiff (ok rfl rfl ht) (xnil (xseq (V0 rfl rfl (grow hw) (by decide) ?_)))))))))))⟩)
 rw[s1,put0]
 refine xseq (V0 rfl rfl at1 (by show(1:Nat)<1000;decide) ?_)
 rw[s2,put1]
 refine xseq (V0 rfl rfl at1 (by show(2:Nat)<1000;decide) ?_)
 rw[s2,put2]
 refine xseq (V0 (JN (arg2 rfl rfl) (hd _)) rfl at1 (by show(3:Nat)<1000;decide) ?_)
 rw[s2,put3]
 refine xseq (V0 rfl rfl at1 (by show(4:Nat)<1000;decide) ?_)
 rw[s2,put4]
 unfold Jer
 rw[Xf]
 refine xb (Je (arg2 rfl rfl) (WR.mono (hh _ λ j o hj e=>?_) ?_))
 ·refine grow ?_
  rw[ZI (ZQ hj)]
  exact e
 ·rintro v h2 ⟨rfl,g2,rfl⟩
  refine Je rfl ⟨w,_,_,rfl,grow at1,by show(5:Nat)<1000;decide,rfl,g1++g2,?_⟩
  rw[Zay (h:=JC at1),s2,put5,ZZ]
  rfl
theorem Jyi {gap len due late:Int}{dv hv:IV}{hs:List IV}(hn:IsNm name)(hg:1<=gap)(hl:1<=len)(ht:0<=late) 
  (hd:∀h1,Yf (k+4) [dv,.int gap] h1=.ok (.int due) h1)(hh:∀h1:IH,(∀(j:Nat)(o:IX),h[j]?=Za o->h1[j]?=Za o)->WR (Yg (k+4) [hv,.int len] h1) λ v h2=>v=.tup hs/\Ex h1 h2) :
  WR (Jbu (k+5) [.ref h.length,.str name,.int gap,.int len,dv,.int late,hv] (h++[.ins "Work" []])) λ v h'=>v=.non/\∃g,h'=h++.ins "Work" (wfs name gap len due late hs)::g:=by
 refine WR.mono (Jta Jk hn hg hl ht hd λ h1 q=>hh h1 λ j o e=>q j o (by have:=JC e;omega) (grow e)) ?_
 rintro v h' ⟨rfl,g,rfl⟩
 exact⟨rfl,g,by rw[VH];simp⟩
end
end
section
variable {k:Nat}{h:IH}
theorem Jfq (hw:h[w]?=Za (.ins "Work" (wfs name gap len due late hs))):Jdy (k+1) [.ref w] h=.ok (.ref h.length) (h++[.lst hs]):=by
 refine Js ?_
 rw[Jlm]
 simp! [Jeq,Qg hw,fl5]
end
structure WD where
 name:Str
 gap:Int
 len:Int
 due:Int
 late:Int
def IsW (h:IH)(v:IV)(d:WD):Prop:=∃i hs,v=.ref i/\h[i]?=Za (.ins "Work" (wfs d.name d.gap d.len d.due d.late hs))
theorem IsW.kp (k:Kp h h')(w:IsW h v d):IsW h' v d:=by
 obtain⟨i,hs,e,q⟩:=w
 exact⟨i,hs,e,k _ _ q⟩
structure AllW (h:IH)(vs:List IV)(ds:List WD):Prop where
 len:vs.length=ds.length
 at_:∀(i:Nat) v d,vs[i]?=Za v->ds[i]?=Za d->IsW h v d
theorem AllW.kp (k:Kp h h')(w:AllW h vs ds):AllW h' vs ds:=⟨w.len,λ i v d a b=>(w.at_ i v d a b).kp k⟩
theorem AllW.of (w:AllW h vs ds)(hv:v∈vs):∃d∈ds,IsW h v d:=by
 obtain⟨i,hi,rfl⟩:=Zax.mp hv
 have hi':i<ds.length:=by rw[<- w.len];exact hi
 exact⟨ds[i],Z3 hi',w.at_ i _ _ (Zb hi) (Zb hi')⟩
def fOf (f:Str)(h:IH)(v:IV):IV:=(VV f v h).getD .non
theorem AllW.mapF (w:AllW h vs ds){F:IV->IV}{g:WD->IV}(hf:∀(i:Nat) (d:WD) hs,h[i]?=Za (.ins "Work" (wfs d.name d.gap d.len d.due d.late hs))->F (.ref i)=g d):vs.map F=ds.map g:=by
 refine Zb7 λ i=>?_
 rw[Zv,Zv]
 by_cases hi:i<vs.length
 ·have hi':i<ds.length:=by rw[<- w.len];exact hi
  rw[Zb hi,Zb hi']
  obtain⟨j,hs,e,q⟩:=w.at_ i _ _ (Zb hi) (Zb hi')
  simp only[ZcX,ZaI]
  rw[e,hf j _ hs q]
 ·have hi':¬i<ds.length:=by rw[<- w.len];exact hi
  rw[ZaJ (by omega),ZaJ (by omega)]
  rfl
section
variable {k:Nat}{h:IH}
theorem Juv:Jv4 ["Work"] (.ins "Work")=Za Zg:=by kernel_rfl
theorem Jl6 {vs:List IV}{ds:List WD}{i:Nat}(hi:h[i]?=Za (.lst vs))(w:AllW h vs ds)(nd:(ds.map (·.name)).Nodup)(hl:ds.length<=20) :
  WR (Jd6 (k+1) [.ref i] h) λ v h'=>v=.tup vs/\Ex h h':=by
 have hb:=J2
 have wl:=w.len
 rw[Jly]
 simp! [Je3,Je4,Jw4 hi]
 refine WR.mono (Qh (h:=h) (xs:=vs) (chk:=λ h'=>h'[i]?=Za (.lst vs)) (f:=λ _=>.bl Zg) ?_ (by omega) (λ h2 q=>q _ _ hi) ?_) ?_
 ·simp! [JK,hi]
 ·intro v hv h2 q
  obtain⟨d,_,j,hs,rfl,e⟩:=w.of hv
  have ty:tyI (.ref j) h2=Za (.ins "Work"):=by simp[tyI,q _ _ e]
  simp! [Jc4,ty,Juv]
  exact .refl _
 ·rintro _ _ ⟨rfl,g,rfl⟩
  have x1:Ex h (h++IX.lst (vs.map λ _=>.bl Zg)::g):=.cons _ _ _
  rw[all_map (f:=λ _=>Zg) Jz]
  generalize h++IX.lst (vs.map λ _=>.bl Zg)::g=h1 at x1
  have at1:(vs.all λ _=>Zg)=Zg:=by simp
  simp! [at1,Je5,Jti]
  have w1:=w.kp x1.kp
  have nm:=w1.mapF (F:=fOf "name" h1) (g:=λ d=>.str d.name) λ j d hs e=>by rw[fOf,Qg e,fl0];rfl
  refine WR.mono (Qh (h:=h1) (xs:=vs) (chk:=λ h'=>h'[i]?=Za (.lst vs)) (f:=fOf "name" h1) ?_ (by omega) (λ h2 q=>q _ _ (x1.get hi)) ?_) ?_
  ·simp! [JK,x1.get hi]
  ·intro v hv h2 q
   obtain⟨d,_,j,hs,rfl,e⟩:=w1.of hv
   simp! [Jc5,Qg (q _ _ e),fl0,fOf,Qg e,ZdB]
   exact .refl _
  ·rintro _ _ ⟨rfl,g2,rfl⟩
   rw[nm]
   have em:ds.map (λ d=>IV.str d.name)=(ds.map (·.name)).map IV.str:=by simp
   rw[em]
   have x2:Ex h1 (h1++IX.lst ((ds.map (·.name)).map IV.str)::g2):=.cons _ _ _
   refine⟨_,rfl,_,Jz,ds.map (·.name),Jkk _,by rw[Zi];unfold Zcc;omega,?_⟩
   rw[Jld nd _ (Zo _)]
   simp! [Jn2,x2.get (x1.get hi),Zi,wl,decide_true,Je6,Jtj]
   exact x1.trans x2
def rup (top bottom:Int):Int:=(top+bottom-1)/bottom
def topD (ds:List WD):Int:=if ds.map (·.due)=[] then 0 else JS (λ i=>(ds.map (·.due)).getD i 0) (ds.map (·.due)).length
def Jn9 (ds:List WD):Int:=(ds.map λ d=>rup (topD ds+d.late) d.gap).sum
def rOf (T:Int)(h:IH)(v:IV):IV:=match VV "late" v h,VV "gap" v h with
 | some (.int l),Za (.int g)=>.int (rup (T+l) g)
 | _,_=>.non
theorem Jsr (hb:0<b)(hl:b.natAbs.log2<9000):Jd7 (k+1) [.int a,.int b] h=.ok (.int (rup a b)) h:=by
 refine Js ?_
 rw[Jlz]
 simp! [Je7,hb,hl,rup]
theorem Jts (w:AllW h vs ds)(hl:ds.length<=20)(hg:∀d∈ds,0<d.gap/\d.gap.natAbs.log2<9000) :
  WR (Jfr (k+2) [.tup vs] h) λ v h'=>v=.int (Jn9 ds)/\Ex h h':=by
 have hb:=J2
 have wl:=w.len
 rw[Jm9]
 simp! [Jf9,Jzp]
 have dm:=w.mapF (F:=fOf "due" h) (g:=λ d=>.int d.due) λ j d hs e=>by rw[fOf,Qg e,fl3];rfl
 refine WR.mono (Qh (h:=h) (xs:=vs) (chk:=λ _=>True) (f:=fOf "due" h) ?_ (by omega) (λ _ _=>trivial) ?_) ?_
 ·simp! [true_and]
 ·intro v hv h2 q
  obtain⟨d,_,j,hs,rfl,e⟩:=w.of hv
  simp! [Jds,Qg (q _ _ e),fl3,fOf,Qg e,ZdB]
  exact .refl _
 ·rintro _ _ ⟨rfl,g,rfl⟩
  rw[dm]
  have em:ds.map (λ d=>IV.int d.due)=(ds.map (·.due)).map IV.int:=by simp
  rw[em]
  have x1:Ex h (h++IX.lst ((ds.map (·.due)).map IV.int)::g):=.cons _ _ _
  refine⟨_,rfl,_,Jz,_,V8 _,?_⟩
  have et:maxD (ds.map (·.due)) (.int 0)=.int (topD ds):=by
   unfold maxD topD
   split<;>rfl
  rw[et]
  generalize h++IX.lst ((ds.map (·.due)).map IV.int)::g=h1 at x1
  have w1:=w.kp x1.kp
  simp! [Jga]
  have rm:=w1.mapF (F:=rOf (topD ds) h1) (g:=λ d=>.int (rup (topD ds+d.late) d.gap)) λ j d hs e=>by rw[rOf,Qg e,Qg e,fl4,fl1]
  refine WR.mono (Qh (h:=h1) (xs:=vs) (chk:=λ _=>True) (f:=rOf (topD ds) h1) ?_ (by omega) (λ _ _=>trivial) ?_) ?_
  ·simp! [true_and]
  ·intro v hv h2 q
   obtain⟨d,hd,j,hs,rfl,e⟩:=w1.of hv
   have e2:=q _ _ e
   simp only[Z4,Za6,Za9,ZaA,ZbI]
   simp! [Jdt,Qg e2,fl4,fl1,Jsr (hg d hd).1 (hg d hd).2]
   exact⟨by rw[rOf,Qg e,Qg e,fl4,fl1],.refl _⟩
  ·rintro _ _ ⟨rfl,g2,rfl⟩
   rw[rm]
   have em2:ds.map (λ d=>IV.int (rup (topD ds+d.late) d.gap))=(ds.map λ d=>rup (topD ds+d.late) d.gap).map IV.int:=by simp
   rw[em2]
   simp! [Jzt,Jz,V8]
   exact⟨rfl,x1.trans (.cons _ _ _)⟩
abbrev dfs (vs:List IV):List (Str×IV):=[("works",.tup vs)]
theorem dp0:putI "works" a ([]:List (Str×IV))=([("works",a)]:List (Str×IV)):=by kernel_rfl
theorem dl0:(([("works",a)]:List (Str×IV))).lookup ("works":Str)=Za a:=by kernel_rfl
theorem dlw:(([("works",a)]:List (Str×IV))).lookup ("work":Str)=Zc:=by kernel_rfl
theorem Jri {vs:List IV}{ds:List WD}{i:Nat}(hi:h[i]?=Za (.lst vs))(w:AllW h vs ds)(nd:(ds.map (·.name)).Nodup)(hl:ds.length<=12)(hg:∀d∈ds,0<d.gap/\d.gap.natAbs.log2<9000)(hc:Jn9 ds<=80) :
  WR (Jbt (k+3) [.ref h.length,.ref i] (h++[.ins "Duty" []])) λ v h'=>v=.non/\∃g,h'=h++.ins "Duty" (dfs vs)::g:=by
 have wl:=w.len
 rw[Jlj]
 simp! [Jel,Xf]
 refine WR.mono (Jl6 (grow hi) (w.kp (Ex.one h _).kp) nd (by omega)) ?_
 rintro _ _ ⟨rfl,g1,rfl⟩
 refine⟨_,_,_,rfl,grow Jk,by decide,?_⟩
 rw[dp0,ZZ,ZU,Zag,VZ]
 simp! [Jem,Qg (Jz (h:=h)),dl0,wl]
 refine⟨λ q=>?_,λ _=>?_⟩
 ·rw[decide_eq_true_eq] at q
  omega
 simp! [Jen,Qg (Jz (h:=h)),dl0]
 refine WR.mono (Jts (w.kp (Ex.cons h _ _).kp) (by omega) hg) ?_
 rintro _ _ ⟨rfl,g2,rfl⟩
 simp! [true_and]
 refine⟨λ q=>?_,λ _=>⟨g1++g2,by simp⟩⟩
 rw[decide_eq_true_eq] at q
 omega
theorem Jfk (hD:h[D]?=Za (.ins "Duty" (dfs vs)))(hx:atI vs n=Za x):Jdx (k+1) [.ref D,.int n] h=.ok x h:=by
 refine Js ?_
 rw[Jll]
 simp! [Jep,Qg hD,dl0,hx]
end
theorem J1u (hb:0<b)(h:a<=m*b):rup a b<=m:=by
 unfold rup
 have:(a+b-1)/b<m+1:=by
  rw[Int.ediv_lt_iff_lt_mul hb,Int.add_mul]
  omega
 omega
theorem Jwv (m:Int):∀l:List Int,(∀x∈l,x<=m)->l.sum<=l.length*m
 | [],_=>by simp
 | x::l,q=>by
  have:=Jwv m l λ y hy=>q y (Zp _ hy)
  have:=q x (Z7 ..)
  rw[Zek,ZB,Int.natCast_add,Int.add_mul]
  simp
  omega
theorem Jj6 {a b K:Nat}(h:a<=b)(hb:b.log2<K):a.log2<K:=by
 by_cases ha:a=0
 ·subst ha
  exact Nat.lt_of_le_of_lt (ZX _) hb
 ·have hb0:b≠0:=by omega
  rw[Nat.log2_lt ha]
  exact Nat.lt_of_le_of_lt h ((Nat.log2_lt hb0).mp hb)
abbrev RH:=WD×List Hd
def rd:RH:=⟨⟨⟨#[]⟩,0,0,0,0⟩,[]⟩
abbrev wo (r:RH):IX:=.ins "Work" (wfs r.1.name r.1.gap r.1.len r.1.due r.1.late (r.2.map tupH))
structure AllH (h:IH)(vs:List IV)(rs:List RH):Prop where
 len:vs.length=rs.length
 at_:∀(i:Nat) v r,vs[i]?=Za v->rs[i]?=Za r->∃j,v=.ref j/\h[j]?=Za (wo r)
theorem AllH.kp (k:Kp h h')(w:AllH h vs rs):AllH h' vs rs:=⟨w.len,λ i v r a b=>let ⟨j,e,g⟩:=w.at_ i v r a b;⟨j,e,k _ _ g⟩⟩
theorem AllH.w {h:IH}{vs:List IV}{rs:List RH}(w:AllH h vs rs):AllW h vs (rs.map (·.1)):=by
 refine⟨by rw[Zi];exact w.len,λ i v d a b=>?_⟩
 rw[Zv] at b
 cases er:rs[i]? with
 | none=>rw[er] at b;cases b
 | some r =>
  rw[er] at b
  cases b
  obtain⟨j,e,g⟩:=w.at_ i v r a er
  exact⟨j,_,e,g⟩
theorem AllH.get (w:AllH h vs rs){n:Nat}(e:rs[n]?=Za r):∃j,vs[n]?=Za (.ref j)/\h[j]?=Za (wo r):=by
 have hn:n<vs.length:=by rw[w.len];exact(Zr.mp e).1
 obtain⟨j,e1,g⟩:=w.at_ n _ r (Zb hn) e
 exact⟨j,by rw[Zb hn,e1],g⟩
structure F8 (unit:Int)(r:RH):Prop where
 nm:IsNm r.1.name
 g1:unit<=r.1.gap
 g2:r.1.gap<9*unit
 l1:1<=r.1.len
 d1:1<=r.1.due
 d2:r.1.due<=r.1.gap
 t1:0<=r.1.late
 t2:r.1.late<2*r.1.gap
 ok:HsOk r.1.len r.2
structure Gd (unit:Int)(rs:List RH):Prop where
 u1:1<=unit
 u2:unit<=10^40
 few:rs.length<=12
 sm:rs.length<=7∨∀r∈rs,r.1.gap<3*unit
 f:∀r∈rs,F8 unit r
 nd:(rs.map λ r=>r.1.name).Nodup
theorem Jz2 {unit:Int}{rs:List RH}(G:Gd unit rs):Jn9 (rs.map (·.1))<=80:=by
 have hu:=G.u1
 have hf:=G.f
 have hl:=G.few
 have key:∀K T:Int,unit<=K->(∀r∈rs,r.1.gap<K)->(∀r∈rs,K+2*r.1.gap<=T*r.1.gap)->Jn9 (rs.map (·.1))<=rs.length*T:=λ K T hK hg hT=>by
  have ht:topD (rs.map (·.1))<=K:=by
   unfold topD
   split
   ·omega
   ·rename_i hne
    refine Jwz _ _ _ (by rw[Zi,Zi];cases rs with|nil=>exact absurd rfl hne|cons _ _=>simp) λ j hj=>?_
    rw[Zi,Zi] at hj
    have e:((rs.map (·.1)).map (·.due)).getD j 0=(rs[j]).1.due:=by
     rw[Zk,Zv,Zv,Zb hj];rfl
    have f1:=(hf _ (Z3 hj)).d2
    have f2:=hg _ (Z3 hj)
    show((rs.map (·.1)).map (·.due)).getD j 0<=_
    rw[e]
    omega
  have:=Jwv T ((rs.map (·.1)).map λ d=>rup (topD (rs.map (·.1))+d.late) d.gap) λ x hx=>by
   obtain⟨d,hd,rfl⟩:=ZC.mp hx
   obtain⟨r,hr,rfl⟩:=ZC.mp hd
   have f1:=(hf r hr).g1
   have f2:=(hf r hr).t2
   have f3:=hT r hr
   exact J1u (by omega) (by omega)
  rw[Zi,Zi] at this
  exact this
 rcases G.sm with h7|h3
 ·have:=key (9*unit) 11 (by omega) (λ r hr=>(hf r hr).g2) λ r hr=>by have:=(hf r hr).g1;omega
  omega
 ·have:=key (3*unit) 5 (by omega) h3 λ r hr=>by have:=(hf r hr).g1;omega
  omega
theorem Gd.gl {unit:Int}{rs:List RH}(G:Gd unit rs):∀d∈rs.map (·.1),0<d.gap/\d.gap.natAbs.log2<9000:=λ d hd=>by
 obtain⟨r,hr,rfl⟩:=ZC.mp hd
 have f:=G.f r hr
 have f1:=f.g1
 have f2:=f.g2
 have u1:=G.u1
 have u2:=G.u2
 refine⟨by omega,Jj6 (b:=9*10^40) ?_ (by decide +kernel)⟩
 have e:((10^40:Nat):Int)=10^40:=by decide +kernel
 clear G f
 generalize (10^40:Int)=y at *
 generalize (10^40:Nat)=z at *
 omega
def IsDu (h:IH)(D:Nat)(rs:List RH):Prop:=∃vs,h[D]?=Za (.ins "Duty" (dfs vs))/\AllH h vs rs
theorem IsDu.kp (k:Kp h h')(w:IsDu h D rs):IsDu h' D rs:=let ⟨vs,a,b⟩:=w;⟨vs,k _ _ a,b.kp k⟩
section
variable {k:Nat}{h:IH}
theorem J2z (hi:h[i]?=Za (.lst vs))(w:AllH h vs rs)(G:Gd unit rs) :
  WR (Jbt (k+3) [.ref h.length,.ref i] (h++[.ins "Duty" []])) λ v h'=>v=.non/\Ex h h'/\IsDu h' h.length rs:=by
 have hl:=G.few
 refine WR.mono (Jri hi w.w (by have:=G.nd;rwa [Za8]) (by rw[Zi];omega) G.gl (Jz2 G)) ?_
 rintro _ _ ⟨rfl,g,rfl⟩
 exact⟨rfl,.cons _ _ _,vs,Jz,w.kp (Ex.cons _ _ _).kp⟩
end
section
seal L4.run L4.WS
section
variable {k:Nat}{h:IH}
theorem e45 (σ:ISt)(h:IH):Jc JJ (eC (.int 10)) (eC (.int 45)) σ h=.ok (.int (10^45)) h:=Js (by
 rw[Vv,Qm,Qm,VJ]
 exact⟨by decide,rfl,rfl⟩)
theorem e30 (σ:ISt)(h:IH):Jc JJ (eC (.int 10)) (eC (.int 30)) σ h=.ok (.int (10^30)) h:=Js (by
 rw[Vv,Qm,Qm,VJ]
 exact⟨by decide,rfl,rfl⟩)
theorem e18 (σ:ISt)(h:IH):Jc Jl (Jc JJ (eC (.int 10)) (eC (.int 18))) (eC (.int 9)) σ h=.ok (.int 1000000000000000009) h:=Js (by
 rw[Vv,Vv,Qm,Qm,VJ]
 refine⟨by decide,?_⟩
 rw[Qm,YD]
 exact⟨congrArg IV.int (by decide +kernel),rfl⟩)
theorem Jie (c:Int)(m:Nat)(hm:m<=40):WR (Yd (k+1) [.int c,.int m] h) λ v h'=>∃(i:Nat)(xs:List Int),v=.ref i/\h.length<=i/\h'[i]?=Za (.lst (xs.map .int))/\xs.length=m/\(∀x∈xs,(0:Int)<=x/\x<10^45)/\Ex h h':=by
 have hb:=J2
 have p45:(0:Int)<10^45:=by decide +kernel
 have le:(1000000000000000009:Int)<=10^45:=by decide +kernel
 obtain⟨T,eT⟩:∃T:Int,∀σ h,Jc JJ (eC (.int 10)) (eC (.int 30)) σ h=.ok (.int T) h:=⟨_,e30⟩
 obtain⟨G,eG,gG⟩:∃G:Int,(∀σ h,Jc Jl (Jc JJ (eC (.int 10)) (eC (.int 18))) (eC (.int 9)) σ h=.ok (.int G) h)/\G=1000000000000000009:=⟨_,e18,rfl⟩
 obtain⟨F,eF,F0,Fl,Fe⟩:∃F:Int,(∀σ h,Jc JJ (eC (.int 10)) (eC (.int 45)) σ h=.ok (.int F) h)/\0<F/\F.natAbs.log2<9000/\F=10^45:=⟨_,e45,p45,by decide +kernel,rfl⟩
 rw[<- Fe] at le ⊢
 clear Fe p45
 rw[Jj4]
 refine xfin (xseq (xset (Je (lstE rfl rfl) (xseq (xifd (geE rfl (eT _ _)) (λ _=>xseq (xset (Je (subE rfl (eT _ _)) (xseq (xrng rfl (by omega) ?_))))) λ _=>xnil (xseq (xset (Je (addE (modE rfl (eG _ _) (by omega)) rfl) (xseq (xrng (n:=m+2) (okc (addE rfl rfl) rfl) (by omega) ?_))))))))))
 ·refine Qn (λ n σ h'=>∃xs rest a b,h'=h++[.lst (xs.map IV.int)]/\σ=[Za (.int c),Za (.int (m:Int)),Za (.ref h.length),Za (.int rest),a,b]/\xs.length=n/\∀x∈xs,(0:Int)<=x/\x<F)
   (λ _ _ _ _=>trivial) ?_ ?_ ⟨[],_,_,_,rfl,rfl,rfl,by simp⟩
  ·rintro n hn _ _ ⟨xs,rest,a,b,rfl,rfl,lx,hx⟩
   rw[Ql] at hn
   have e1:=ZH rest (b:=F) (by omega)
   have e2:=ZD rest F0
   refine xnx rfl (xseq (Qs (QP rfl Jk V6 (Je (arg1 (modE rfl (eF _ _) F0)) (xapp Jk (by rw[Zi];omega) (xset (Je (Qk rfl (eF _ _) F0 Fl) ⟨xs++[rest%F],_,_,_,?_,rfl,by simp[lx],λ x hxx=>?_⟩)))))))
   ·rw[VH]
    simp
   ·rw[ZM,Zy] at hxx
    rcases hxx with hxx|rfl
    ·exact hx x hxx
    ·exact⟨e1,e2⟩
  ·rintro _ _ ⟨xs,rest,a,b,rfl,rfl,lx,hx⟩
   rw[Ql] at lx
   exact xret (Je rfl ⟨_,xs,rfl,Zo _,Jk,by omega,hx,.one _ _⟩)
 ·have s0:=ZH c (b:=G) (by omega)
  have s1:=ZD c (b:=G) (by omega)
  refine Qn (λ n σ h'=>∃xs num a b,h'=h++[.lst (xs.map IV.int)]/\σ=[Za (.int c),Za (.int (m:Int)),Za (.ref h.length),a,b,Za (.int num)]/\(0<=num/\num<2000000000000000000)/\xs.length=n/\∀x∈xs,(0:Int)<=x/\x<G)
   (λ _ _ _ _=>trivial) ?_ ?_ ⟨[],_,_,_,rfl,rfl,by omega,rfl,by simp⟩
  ·rintro n hn _ _ ⟨xs,num,a,b,rfl,rfl,hnum,lx,hx⟩
   rw[VG]
   rw[Ql] at hn
   have e1:=ZH (num*num+48271*num+(0+(n:Int))) (b:=G) (by omega)
   have e2:=ZD (num*num+48271*num+(0+(n:Int))) (b:=G) (by omega)
   refine xnx rfl (xseq (xset (Je (modE (addE (addE (mulE rfl rfl (.inl (by omega))) (mulE rfl rfl (.inl (by decide)))) rfl) (eG _ _) (by omega)) (Qs (QP rfl Jk V6 (Je (arg1 rfl) (xapp Jk (by rw[Zi];omega) ⟨xs++[(num*num+48271*num+(0+(n:Int)))%G],_,_,_,?_,rfl,by omega,by simp[lx],λ x hxx=>?_⟩)))))))
   ·rw[VH]
    simp
   ·rw[ZM,Zy] at hxx
    rcases hxx with hxx|rfl
    ·exact hx x hxx
    ·exact⟨e1,e2⟩
  ·rintro _ _ ⟨xs,num,a,b,rfl,rfl,hnum,lx,hx⟩
   rw[Ql] at lx
   refine xret ((Xe ..).mpr (Je rfl (Je rfl (Je rfl ((Jpg ..).mpr ⟨_,Jk,?_⟩)))))
   rw[show(Za (2:Int))=Za ((2:Nat):Int) from rfl,Joa,<-Zel]
   refine⟨_,xs.drop 2,rfl,by simp,Jk,by simp;omega,λ x hxx=>?_,(Ex.one _ _).trans (.one _ _)⟩
   have:=hx x (List.mem_of_mem_drop hxx)
   omega
end
end
section
variable {k:Nat}{h:IH}
mutual
theorem Joe:∀d:ZcM,d.canLay0=Zg->Zbv d d=Zg
 | .none,_=>by simp[Zbv]
 | .bool _,_=>by simp[Zbv]
 | .int _,_=>by simp[Zbv]
 | .str _,_=>by simp[Zbv]
 | .list xs,q=>by
  rw[Zbv]
  exact Jhs xs (by rw[Zad] at q;exact q)
 | .tuple xs,q=>by
  rw[Zbv]
  exact Jhs xs (by rw[Zad] at q;exact q)
 | .dict _,q=>by rw[Zad] at q;cases q
theorem Jhs:∀ds:List ZcM,ZP ds=Zg->Zbr ds ds=Zg
 | [],_=>by rw[Zbr]
 | d::ds,q=>by
  rw[ZP,Zq] at q
  rw[Zbr,Joe d q.1,Jhs ds q.2]
  rfl
end
theorem Xv (e:h[i]?=Za (.lst xs)):toD h (n+1) (.ref i)=(xs.mapM (toD h n)).map Zcy:=by
 show(match h[i]? with|some (.lst xs)=>(xs.mapM (toD h n)).map Zcy|_=>Zc)=_
 rw[e]
theorem Jnj {f:IV->Option ZcM}{g:IV->ZcM}:∀{xs:List IV},(∀x∈xs,f x=Za (g x))->xs.mapM f=Za (xs.map g)
 | [],_=>rfl
 | x::xs,q=>by
  rw[ZbF,q x (Z7 ..),Jnj λ y hy=>q y (Zp _ hy)]
  rfl
theorem Jwi:∀{xs:List IV},(∀x∈xs,(g x).canLay0=Zg)->ZP (xs.map g)=Zg
 | [],_=>by rw[Za6,ZP]
 | x::xs,q=>by
  rw[Z4,ZP,q x (Z7 ..),Jwi λ y hy=>q y (Zp _ hy)]
  rfl
end
section
seal L4.run
section
variable {k:Nat}{h:IH}
theorem Jnh:(Za0 "abcdefghijklmnopqrstuvwxyz").cps.toList=(ZN 26).map (97+ ·):=by decide +kernel
theorem Jni:(Za0 "abcdefghijklmnopqrstuvwxyz").length=26:=by decide +kernel
theorem Jsc (h0:0<=n)(h1:n<26):WR (Jf (.str "abcdefghijklmnopqrstuvwxyz") (.int n) h) Q=Q (.str ⟨#[97+n.toNat]⟩) h:=by
 have hb:=J2
 have e:atI (Za0 "abcdefghijklmnopqrstuvwxyz").cps.toList n=Za (97+n.toNat):=by
  rw[Jnh]
  refine Jmy h0 ?_
  rw[Zv,ZbB (by omega)]
  rfl
 simp only[Jf]
 rw[if_pos (by rw[Jni];omega),e]
 rfl
theorem Jzd (l m:List Nat):(⟨l.toArray⟩:Str)++(⟨m.toArray⟩:Str)=⟨(l++m).toArray⟩:=by
 show Str.append _ _=_
 unfold Str.append
 simp
theorem Y5 (l:List Nat):(⟨l.toArray⟩:Str).length=l.length:=by simp[Zeo]
theorem Jrj:(Za0 "")=(⟨([]:List Nat).toArray⟩:Str):=by decide +kernel
def wSz (c:Int):Int:=1+c%8
def wAt (c:Int):Int:=c/8%wSz c
def wB (c:Int):List Nat:=(ZN (wSz c).toNat).map λ j:Nat=>97+(c/(11+(j:Int)*(j:Int))%26).toNat
def wL (c:Int)(q:Nat):List Nat:=((wB c).take (wAt c).toNat++[97+((c/64+(q:Int))%26).toNat])++(wB c).drop ((wAt c).toNat+1)
def wd (c:Int)(q:Nat):Str:=⟨(wL c q).toArray⟩
theorem w_at (c:Int):0<wSz c/\wSz c<=8/\0<=wAt c/\wAt c<wSz c:=by
 have hs:0<wSz c/\wSz c<=8:=by unfold wSz;omega
 exact⟨hs.1,hs.2,ZH _ (by omega),ZD _ hs.1⟩
theorem Jw7 (c:Int):(wB c).length=(wSz c).toNat:=by simp[wB]
theorem Jw8 (c:Int)(q:Nat):(wL c q).length=(wSz c).toNat:=by
 have:=w_at c
 simp[wL,Jw7]
 omega
theorem Js8 (c:Int)(q:Nat):IsNm (wd c q):=by
 have hs:=w_at c
 refine⟨?_,?_,?_⟩
 ·rw[wd,Y5,Jw8];omega
 ·rw[wd,Y5,Jw8];omega
 ·intro x hx
  have hx:x∈wL c q:=by simpa [wd] using hx
  have hB:∀x∈wB c,97<=x/\x<=122:=λ x hx=>by
   obtain⟨j,_,rfl⟩:=ZC.mp hx
   have h1:=ZH (c/(11+(j:Int)*(j:Int))) (b:=26) (by decide)
   have h2:=ZD (c/(11+(j:Int)*(j:Int))) (b:=26) (by decide)
   omega
  have h1:=ZH (c/64+(q:Int)) (b:=26) (by decide)
  have h2:=ZD (c/64+(q:Int)) (b:=26) (by decide)
  simp only[wL,ZM,Zy] at hx
  rcases hx with(hx|rfl)|hx
  ·exact hB x (List.mem_of_mem_take hx)
  ·omega
  ·exact hB x (List.mem_of_mem_drop hx)
theorem Jw9 (hp:p<26)(hq:q<26)(e:wd c p=wd c q):p=q:=by
 have e1:wL c p=wL c q:=by
  have:(wL c p).toArray=(wL c q).toArray:=congrArg Str.cps e
  simpa using this
 have h1:=ZH (c/64+(p:Int)) (b:=26) (by decide)
 have h2:=ZH (c/64+(q:Int)) (b:=26) (by decide)
 have e2:(97+((c/64+(p:Int))%26).toNat)=97+((c/64+(q:Int))%26).toNat:=by
  unfold wL at e1
  have:=List.append_cancel_right e1
  have:=List.append_cancel_left this
  simpa using this
 omega
def lOf (c:Int)(v:IV):IV:=match v with
 | .int j=>.str ⟨#[97+(c/(11+j*j)%26).toNat]⟩
 | _=>.non
theorem Jqm (l:List Nat):Qz (l.map λ x=>IV.str ⟨#[x]⟩)=Za (Zby ⟨l.toArray⟩):=by
 have:=Jkk (Zby ⟨l.toArray⟩)
 rw[<- this]
 simp[Zby]
 rfl
theorem Jyd {l:List Nat}(hl:l.length<=8):JoinOk (Za0 "") (Zby ⟨l.toArray⟩)=Zg:=by
 have hb:=J2
 have e0:(Za0 "").length=0:=by decide +kernel
 have:∀(m:List Nat) (a:Nat),(m.map λ x=>(⟨#[x]⟩:Str)).foldl (λ n (x:Str)=>n+x.length+(Za0 "").length) a=a+m.length:=by
  intro m
  induction m with
  | nil=>intro a;rfl
  | cons x m ih =>
   intro a
   rw[Z4,List.foldl_cons,ih,e0]
   simp[Zeo]
   omega
 have e:(Zby ⟨l.toArray⟩).foldl (λ n (x:Str)=>n+x.length+(Za0 "").length) 0=0+l.length:=this l 0
 unfold JoinOk Builtin.Str.tooLong
 rw[List.foldl_toArray]
 simp only[ZaH,decide_eq_false_iff_not]
 omega
theorem letE (ea:a σ h=.ok (.str "abcdefghijklmnopqrstuvwxyz") h1)(eb:b σ h1=.ok (.int n) h1)(n0:0<=n)(n1:n<26):Jc Jf a b σ h=.ok (.str ⟨#[97+n.toNat]⟩) h1:=by
 rw[binE ea eb]
 exact Js (by rw[Jsc n0 n1];exact⟨rfl,rfl⟩)
theorem slE (ea:a σ h=.ok (.str x) h)(el:lo σ h=.ok l h)(eu:hi σ h=.ok u h)(z:x.length<=8)(e:Zef x l u=y):eSl slT a lo hi σ h=.ok (.str y) h:=by
 have hb:=J2
 refine Js ((Xe ..).mpr (Je ea (Je el (Je eu ?_))))
 rw[Jzs,e]
 exact⟨by omega,rfl,rfl⟩
theorem strE {x y:List Nat}(ea:a σ h=.ok (.str ⟨x.toArray⟩) h)(eb:b σ h=.ok (.str ⟨y.toArray⟩) h)(z:x.length+y.length<=9):Jc Jl a b σ h=.ok (.str ⟨(x++y).toArray⟩) h:=by
 have hb:=J2
 rw[binE ea eb]
 refine Js ?_
 rw[YF,Jzd,Y5,Y5]
 exact⟨by omega,rfl,rfl⟩
theorem Js9 (c:Int)(q:Nat):WR (Jda (k+1) [.int c,.int q] h) λ v h'=>v=.str (wd c q)/\Ex h h':=by
 have hb:=J2
 have hs:=w_at c
 have bl:=Jw7 c
 have sl:(⟨(wB c).toArray⟩:Str).length=(wB c).length:=Y5 _
 rw[Jnd]
 refine xfin (xseq (xset (Je rfl (xseq (xset (Je (a:=.int (wSz c)) (addE rfl (modE rfl rfl (by decide))) (xseq (xset ((Jzm (x:=Za0 "") (h1:=h) rfl Jxj).mpr (xb (WR.mono (Qh (h:=h) (xs:=rngI 0 (wSz c)) (chk:=λ _=>True) (f:=lOf c) ?_ (by rw[Ql];omega) (λ _ _=>trivial) ?_) ?_)))))))))))
 ·rw[Vw]
  refine Je (arg1 rfl) ?_
  rw[Xd]
  exact⟨by omega,rfl,rfl,rfl⟩
 ·intro x hx h2 k2
  obtain⟨n,hn,rfl⟩:=Zax.mp hx
  rw[VG,show(0+(n:Int))=(n:Int) by omega]
  rw[Ql] at hn
  have hn8:n<8:=by omega
  have sq:(n:Int)*(n:Int)<=49/\0<=(n:Int)*(n:Int):=by
   obtain rfl|rfl|rfl|rfl|rfl|rfl|rfl|rfl:n=0∨n=1∨n=2∨n=3∨n=4∨n=5∨n=6∨n=7:=by omega
   all_goals decide
  unfold Jdv
  exact Je (letE rfl (modE (Qk rfl (addE rfl (mulE rfl rfl (.inl (by omega)))) (by omega) (Jj6 (b:=60) (by omega) (by decide))) rfl (by decide)) (ZH _ (by decide)) (ZD _ (by decide))) ⟨rfl,.refl _⟩
 ·rintro _ _ ⟨rfl,g,rfl⟩
  have em:(rngI 0 (wSz c)).map (lOf c)=(wB c).map λ x=>IV.str ⟨#[x]⟩:=by
   rw[wB,Za8]
   refine Zbg (by rw[Zi,Zi,Ql,Zbm];omega) λ i h1 h2=>?_
   rw[ZJ,VG,ZJ,ZbM]
   simp[lOf]
  rw[em]
  have x1:Ex h (h++IX.lst ((wB c).map λ x=>IV.str ⟨#[x]⟩)::g):=.cons _ _ _
  have g1:(h++IX.lst ((wB c).map λ x=>IV.str ⟨#[x]⟩)::g)[h.length]?=Za (.lst ((wB c).map λ x=>IV.str ⟨#[x]⟩)):=Jz
  generalize h++IX.lst ((wB c).map λ x=>IV.str ⟨#[x]⟩)::g=h1 at x1 g1
  have jn:Txt.join (Za0 "") (Zby ⟨(wB c).toArray⟩)=⟨(wB c).toArray⟩:=by rw[Jrj];exact(StrLaws.glued_eq_join _ _).trans (PyProof.Rows.join_nil_signs _)
  have s1:Zef ⟨(wB c).toArray⟩ Zc (Za (wAt c))=⟨((wB c).take (wAt c).toNat).toArray⟩:=by
   have:=beq_iff_eq.mp (PyProof.Rows.slice_closes_toL (x:=⟨(wB c).toArray⟩) (j:=wAt c) hs.2.2.1 (by rw[sl,bl];omega))
   rw[this]
   simp
  have s2:Zef ⟨(wB c).toArray⟩ (Za (wAt c+1)) Zc=⟨((wB c).drop ((wAt c).toNat+1)).toArray⟩:=by
   have:=beq_iff_eq.mp (PyProof.Rows.slice_closes_fromL (x:=⟨(wB c).toArray⟩) (i:=wAt c+1) (by omega) (by rw[sl,bl];omega) rfl)
   rw[this]
   have e1:(wAt c+1).toNat=(wAt c).toNat+1:=by omega
   rw[e1,Zaz (by rw[ZcJ];show _<=((⟨(wB c).toArray⟩:Str).length-(wAt c+1)).toNat;rw[sl];simp;omega)]
  have l8:(⟨(wB c).toArray⟩:Str).length<=8:=by omega
  have t8:=List.length_take_le (wAt c).toNat (wB c)
  have d8:((wB c).drop ((wAt c).toNat+1)).length<=8-(wAt c).toNat-1:=by rw[ZcJ];omega
  refine Je rfl (Jzn.mpr ⟨_,g1,_,Jqm _,Jyd (show(wB c).length<=8 by omega),?_⟩)
  rw[jn]
  refine xseq (xset (Je (a:=.int (wAt c)) (modE (Qk rfl rfl (by decide) (by decide)) rfl hs.1) (xret (Je (strE (strE (slE rfl rfl rfl l8 s1) (letE rfl (modE (addE (Qk rfl rfl (by decide) (by decide)) rfl) rfl (by decide)) (ZH _ (by decide)) (ZD _ (by decide))) ?_) (slE rfl rfl rfl l8 s2) ?_) ⟨rfl,x1⟩))))
  ·simp;omega
  ·simp;omega
end
end
section
seal L4.run
theorem at_x {xs:List Int}{n:Nat}(hn:n<xs.length):∃x,atI (xs.map IV.int) (n:Int)=Za (.int x) :=
 ⟨xs[n],JE (by rw[Zv,Zb hn];rfl)⟩
theorem J24 {len:Int}{cand:List Hd}(hc:cand.length<=6)(each:∀a∈cand,IsNm a.1/\0<=a.2.1/\a.2.2<len)(tog:cand.Pairwise λ a b=>Tog b a):HsOk len (cand.filter λ a=>decide (a.2.1<a.2.2)):=by
 refine⟨ZY (Zb0 _ _) hc,λ a ha=>?_,λ m n hm hn=>Zdt.mp (tog.filter _) m n _ hn hm⟩
 obtain⟨h1,h2⟩:=Zbn.mp ha
 obtain⟨e1,e2,e3⟩:=each a h1
 exact⟨e1,e2,of_decide_eq_true h2,e3⟩
theorem all1 {α:Type}{P:α->Prop}{a:α}(h:P a):∀x∈[a],P x:=λ x hx=>by rw[Zy.mp hx];exact h
theorem allc {α:Type}{P:α->Prop}{a:α}{l:List α}(h:P a)(q:∀x∈l,P x):∀x∈a::l,P x:=List.forall_mem_cons.mpr ⟨h,q⟩
theorem pw1 {α:Type}{R:α->α->Prop}{a:α}:[a].Pairwise R:=.cons (λ _ h=>by cases h) .nil
theorem pw2 {α:Type}{R:α->α->Prop}{a b:α}(h:R a b):[a,b].Pairwise R:=.cons (all1 h) pw1
section
variable {k:Nat}{h:IH}
theorem Jxv {h h':IH}(k:Kp h h'):Ex h h':=by
 refine⟨h'.drop h.length,Zb7 λ i=>?_⟩
 by_cases hi:i<h.length
 ·rw[ZE hi,Zb hi]
  exact k i _ (Zb hi)
 ·rw[Z9 (by omega),List.getElem?_drop]
  congr 1
  omega
theorem Jvg {i:Nat}{ms:List Int}(hi:h[i]?=Za (.lst (ms.map .int)))(hl:ms.length<64):XS (.ref i) h=.ok (.ref h.length) (h++[.lst ((QX ms).map .int)]):=by
 dsimp only[XS]
 rw[hi]
 dsimp only
 rw[if_pos (by rw[Zi];exact hl)]
 unfold srtI
 rw[V8]
theorem J4a {ms:List Int}{len:Int}(hl:ms.length=6)(hm:∀x∈ms,0<=x/\x<len):∃p0 p1 p2 p3 p4 p5:Int,QX ms=[p0,p1,p2,p3,p4,p5]/\0<=p0/\p0<=p1/\p1<=p2/\p2<=p3/\p3<=p4/\p4<=p5/\p5<len:=by
 have pw:=Jow ms
 have l:(QX ms).length=6:=by rw[QX,List.length_mergeSort];exact hl
 have mem:∀x∈QX ms,0<=x/\x<len:=λ x hx=>hm x (List.mem_mergeSort.mp hx)
 match QX ms,l,pw,mem with
 | [p0,p1,p2,p3,p4,p5],_,pw,mem =>
  simp only[Zcu,Z6,ZT,or_false] at pw
  obtain⟨a,b,c,d,e,_⟩:=pw
  exact⟨p0,p1,p2,p3,p4,p5,rfl,(mem p0 (by simp)).1,a p1 (.inl rfl),b p2 (.inl rfl),c p3 (.inl rfl),d p4 (.inl rfl),e p5 rfl,(mem p5 (by simp)).2⟩
def Jz7 (v:IV):Bool:=match v with
 | .tup [_,.int s,.int e]=>decide (s<e)
 | _=>Zj
theorem Jrm (cand:List Hd):(cand.map tupH).filter Jz7=(cand.filter λ a=>decide (a.2.1<a.2.2)).map tupH:=by
 rw[List.filter_map]
 rfl
def way7 (one other third:Str)(p0 p1 p2 p3 p4 p5:Int):Nat->List Hd
 | 0=>[]
 | 1=>[(one,p0,p5)]
 | 2=>[(one,p0,p5),(other,p1,p4)]
 | 3=>[(other,p1,p2),(one,p0,p3)]
 | 4=>[(one,p0,p1),(other,p2,p5)]
 | 5=>[(one,p2,p4),(one,p0,p1)]
 | _=>[(other,p1,p4),(one,p0,p5),(third,p2,p3)]
theorem Jo3 {one other third:Str}{p0 p1 p2 p3 p4 p5:Int}(n:Nat):(way7 one other third p0 p1 p2 p3 p4 p5 n).length<=6:=by
 match n with
 | 0|1|2|3|4|5|n+6=>simp[way7]
theorem Jzj {one other third:Str}{p0 p1 p2 p3 p4 p5 len:Int}(n:Nat)(h1:IsNm one)(h2:IsNm other)(h3:IsNm third)(ne:one≠other)(n3:third≠one)(n4:third≠other)(a0:0<=p0)(a1:p0<=p1)(a2:p1<=p2)(a3:p2<=p3)(a4:p3<=p4)(a5:p4<=p5)(a6:p5<len):HsOk len ((way7 one other third p0 p1 p2 p3 p4 p5 n).filter λ a=>decide (a.2.1<a.2.2)):=by
 have b1:=Zb6 a0 a1
 have b2:=Zb6 b1 a2
 have b4:=ZbN a5 a6
 have b3:=ZbN a4 b4
 have c2:=ZbN a3 b3
 have c1:=ZbN a2 c2
 refine J24 (Jo3 n) ?_ ?_
 ·match n with
  | 0=>exact λ _ h=>by cases h
  | 1=>exact all1 ⟨h1,a0,a6⟩
  | 2=>exact allc ⟨h1,a0,a6⟩ (all1 ⟨h2,b1,b4⟩)
  | 3=>exact allc ⟨h2,b1,c2⟩ (all1 ⟨h1,a0,b3⟩)
  | 4=>exact allc ⟨h1,a0,c1⟩ (all1 ⟨h2,b2,a6⟩)
  | 5=>exact allc ⟨h1,b2,b4⟩ (all1 ⟨h1,a0,c1⟩)
  | n+6=>exact allc ⟨h2,b1,b4⟩ (allc ⟨h1,a0,a6⟩ (all1 ⟨h3,b2,b3⟩))
 ·match n with
  | 0=>exact .nil
  | 1=>exact pw1
  | 2=>exact pw2 (.inr (.inr ⟨ZQ ne,.inl ⟨a1,a5⟩⟩))
  | 3=>exact pw2 (.inr (.inr ⟨ne,.inr ⟨a1,a3⟩⟩))
  | 4=>exact pw2 (.inr (.inl a2))
  | 5=>exact pw2 (.inl a2)
  | n+6=>exact .cons (allc (.inr (.inr ⟨ne,.inr ⟨a1,a5⟩⟩)) (all1 (.inr (.inr ⟨n4,.inl ⟨a2,a4⟩⟩)))) (pw2 (.inr (.inr ⟨n3,.inl ⟨Zb6 a1 a2,Zb6 a4 a5⟩⟩)))
theorem xbin {f:IV->IV->IH->Res IV}{a b:E1}{x y:IV}{σ:ISt}{h1 h2:IH}{P:IV->IH->Prop}(ea:a σ h=.ok x h1)(eb:b σ h1=.ok y h2)(q:WR (f x y h2) P):WR (Jc f a b σ h) P:=by rw[binE ea eb];exact q
theorem QN {C:IH}{σ:ISt}{Pp s:Nat}{ps:List IV}{w:Str}{a b x y:Int}(gP:C[Pp]?=Za (.lst ps))(e3:Ja 3 σ C=.ok (.ref Pp) C)(ew:Ja s σ C=.ok (.str w) C)(ea:atI ps a=Za (.int x))(eb:atI ps b=Za (.int y)) :
  J8 (Jb (Ja s) (Jb (Jc Jf (Ja 3) (eC (.int a))) (Jb (Jc Jf (Ja 3) (eC (.int b))) Jd))) σ C=.ok (tupH (w,x,y)) C:=tupE (arg3 ew (ixlE e3 rfl gP ea) (ixlE e3 rfl gP eb)) rfl
section
variable {C:IH}{X O Pp i0 i1 i2 i3 i4 i5 i6:Nat}{xs:List Int}{one other third:Str}{p0 p1 p2 p3 p4 p5 y8:Int}{a1 a2 a3 a4 a5 a6 a7 a8:Option IV}{N:ISt->IH->Prop}
def Wy (one other third:Str)(p0 p1 p2 p3 p4 p5:Int)(C:IH)(v:IV)(h':IH):Prop:=∃q n,v=.ref q/\C.length<=q/\h'[q]?=Za (.lst (((way7 one other third p0 p1 p2 p3 p4 p5 n).filter λ a=>decide (a.2.1<a.2.2)).map tupH))/\Ex C h'
theorem Wy.mono {C D:IH}{v:IV}{h':IH}(w:Wy one other third p0 p1 p2 p3 p4 p5 D v h')(x:Ex C D):Wy one other third p0 p1 p2 p3 p4 p5 C v h':=let ⟨q,n,e,l,g,y⟩:=w;⟨q,n,e,ZY x.len l,g,x.trans y⟩
theorem Jx4 (c0:C[i0]?=Za (.lst []))(c1:C[i1]?=Za (.lst [tupH (one,p0,p5)]))(c2:C[i2]?=Za (.lst [tupH (one,p0,p5),tupH (other,p1,p4)]))(c3:C[i3]?=Za (.lst [tupH (other,p1,p2),tupH (one,p0,p3)]))
  (c4:C[i4]?=Za (.lst [tupH (one,p0,p1),tupH (other,p2,p5)]))(c5:C[i5]?=Za (.lst [tupH (one,p2,p4),tupH (one,p0,p1)]))(c6:C[i6]?=Za (.lst [tupH (other,p1,p4),tupH (one,p0,p5),tupH (third,p2,p3)]))(cO:C[O]?=Za (.lst [.ref i0,.ref i1,.ref i2,.ref i3,.ref i4,.ref i5,.ref i6]))(hX:C[X]?=Za (.lst (xs.map .int)))(e8:atI (xs.map IV.int) 8=Za (.int y8)) :
  WS (Jev k [Za (.ref X),a1,a2,a3,a4,a5,a6,a7,Za (.ref O)] C) N (Wy one other third p0 p1 p2 p3 p4 p5 C):=by
 have hb:=J2
 have pick:∃(n m:Nat),atI [IV.ref i0,IV.ref i1,IV.ref i2,IV.ref i3,IV.ref i4,IV.ref i5,IV.ref i6] (y8%7)=Za (.ref m)/\C[m]?=Za (.lst ((way7 one other third p0 p1 p2 p3 p4 p5 n).map tupH)):=by
  have:y8%7=0∨y8%7=1∨y8%7=2∨y8%7=3∨y8%7=4∨y8%7=5∨y8%7=6:=by omega
  rcases this with e|e|e|e|e|e|e<;>rw[e]
  ·exact⟨0,i0,Qc,c0⟩
  ·exact⟨1,i1,JU,c1⟩
  ·exact⟨2,i2,Qj,c2⟩
  ·exact⟨3,i3,Qf,c3⟩
  ·exact⟨4,i4,Vh,c4⟩
  ·exact⟨5,i5,JE (n:=5) rfl,c5⟩
  ·exact⟨6,i6,JE (n:=6) rfl,c6⟩
 obtain⟨n,m,em,gm⟩:=pick
 have ln:=Jo3 (one:=one) (other:=other) (third:=third) (p0:=p0) (p1:=p1) (p2:=p2) (p3:=p3) (p4:=p4) (p5:=p5) n
 refine xret (WR.mono (YH (h:=C) (xs:=(way7 one other third p0 p1 p2 p3 p4 p5 n).map tupH) (chk:=λ h'=>h'[m]?=Za (.lst ((way7 one other third p0 p1 p2 p3 p4 p5 n).map tupH))) (p:=Jz7) (f:=λ v=>v) ?_ (by rw[Zi];omega) (λ h2 q=>q _ _ gm) ?_ ?_) ?_)
 ·rw[JT]
  exact Je (ixlE rfl (modE (ixlE rfl rfl hX e8) rfl (by decide)) cO em) ((JK _).mpr ⟨_,gm,rfl,rfl,rfl⟩)
 ·intro v hv h2 q
  obtain⟨a,_,rfl⟩:=ZC.mp hv
  unfold Jc1
  exact Je (ltE (ixtE rfl rfl rfl) (ixtE rfl rfl rfl)) ⟨rfl,.refl _⟩
 ·intro v hv _ h2 q
  exact⟨rfl,.refl _⟩
 ·rintro _ _ ⟨rfl,g,rfl⟩
  refine⟨_,n,rfl,Zo _,?_,.cons _ _ _⟩
  rw[Jz,Ze1,Jrm]
theorem Jx3 (B:Nat)(lB:B<=O)(c0:C[i0]?=Za (.lst []))(c1:C[i1]?=Za (.lst [tupH (one,p0,p5)]))(c2:C[i2]?=Za (.lst [tupH (one,p0,p5),tupH (other,p1,p4)]))(c3:C[i3]?=Za (.lst [tupH (other,p1,p2),tupH (one,p0,p3)]))
  (c4:C[i4]?=Za (.lst [tupH (one,p0,p1),tupH (other,p2,p5)]))(c5:C[i5]?=Za (.lst [tupH (one,p2,p4),tupH (one,p0,p1)]))(cO:C[O]?=Za (.lst [.ref i0,.ref i1,.ref i2,.ref i3,.ref i4,.ref i5]))(gP:C[Pp]?=Za (.lst [.int p0,.int p1,.int p2,.int p3,.int p4,.int p5]))(hX:C[X]?=Za (.lst (xs.map .int)))(XO:X≠O)(e8:atI (xs.map IV.int) 8=Za (.int y8))
  {D:IH}(xD:Ex D C)(lD:D.length<=O) :
  WS (Jeu k [Za (.ref X),a1,a2,Za (.ref Pp),Za (.str one),a5,Za (.str other),Za (.str third),Za (.ref O)] C) N (Wy one other third p0 p1 p2 p3 p4 p5 D):=by
 have hb:=J2
 have ne:∀{i:Nat}{ys:List IV},C[i]?=Za (.lst ys)->Nat.beq ys.length 6=Zj->O≠i:=λ e l z=>by
  rw[<- z,cO] at e
  cases e
  cases l
 refine xseq (Qs (QP rfl cO V6 (Je (arg1 (lstE (arg3 (QN gP rfl rfl rfl rfl) (QN gP rfl rfl rfl rfl) (QN gP rfl rfl rfl rfl)) rfl)) (xapp (grow cO) (by show(6:Nat)<_;omega) ?_))))
 have st:∀{i:Nat}{o o':IX}{h:IH},h[i]?=Za o->O≠i->(h.set O o')[i]?=Za o:=λ e n=>by rw[ZI n];exact e
 have lO:=(Zr.mp cO).1
 refine WS.mono (Jx4 (k:=k) (p0:=p0) (p1:=p1) (p2:=p2) (p3:=p3) (p4:=p4) (p5:=p5) (one:=one) (other:=other) (third:=third) (N:=N) (st (grow c0) (ne c0 rfl)) (st (grow c1) (ne c1 rfl)) (st (grow c2) (ne c2 rfl)) (st (grow c3) (ne c3 rfl)) (st (grow c4) (ne c4 rfl)) (st (grow c5) (ne c5 rfl)) (st Jk (by omega)) (by rw[ZL (by rw[Zt];omega)];rfl) (st (grow hX) (ZQ XO)) e8) (λ _ _ z=>z) λ v h' w=>w.mono ?_
 exact Jxv λ j o e=>st (grow (xD.get e)) (by have:=(Zr.mp e).1;omega)
theorem Jx2 (c0:C[i0]?=Za (.lst []))(c1:C[i1]?=Za (.lst [tupH (one,p0,p5)]))(c2:C[i2]?=Za (.lst [tupH (one,p0,p5),tupH (other,p1,p4)]))(c3:C[i3]?=Za (.lst [tupH (other,p1,p2),tupH (one,p0,p3)]))
  (cO:C[O]?=Za (.lst [.ref i0,.ref i1,.ref i2,.ref i3]))(gP:C[Pp]?=Za (.lst [.int p0,.int p1,.int p2,.int p3,.int p4,.int p5]))(hX:C[X]?=Za (.lst (xs.map .int)))(e8:atI (xs.map IV.int) 8=Za (.int y8)) :
  WS (Jet k [Za (.ref X),a1,a2,Za (.ref Pp),Za (.str one),a5,Za (.str other),Za (.str third),Za (.ref O)] C) N (Wy one other third p0 p1 p2 p3 p4 p5 C):=by
 have hb:=J2
 refine xseq (xset (xbin rfl (lstE (arg2 (lstE (arg2 (QN gP rfl rfl rfl rfl) (QN gP rfl rfl rfl rfl)) rfl) (lstE (arg2 (QN (grow gP) rfl rfl rfl rfl) (QN (grow gP) rfl rfl rfl rfl)) rfl)) rfl) ?_))
 refine(YE ..).mpr ⟨_,grow (grow (grow cO)),_,Jk,by simp;omega,?_⟩
 have xC:∀a b c d,Ex C (C++[a]++[b]++[c]++[d]):=λ a b c d=>(Ex.one _ _).trans ((Ex.one _ _).trans ((Ex.one _ _).trans (.one _ _)))
 have lX:=(Zr.mp hX).1
 exact Jx3 (k:=k) (p0:=p0) (p1:=p1) (p2:=p2) (p3:=p3) (p4:=p4) (p5:=p5) (one:=one) (other:=other) (N:=N) 0 (ZX _) ((xC _ _ _ _).get c0) ((xC _ _ _ _).get c1) ((xC _ _ _ _).get c2) ((xC _ _ _ _).get c3) (grow (grow (grow Jk))) (grow (grow Jk)) Jk ((xC _ _ _ _).get gP) ((xC _ _ _ _).get hX) (by simp only[Zt];omega) e8 (xC _ _ _ _) (by simp only[Zt];omega)
theorem Jx1 (gP:C[Pp]?=Za (.lst [.int p0,.int p1,.int p2,.int p3,.int p4,.int p5]))(hX:C[X]?=Za (.lst (xs.map .int)))(e8:atI (xs.map IV.int) 8=Za (.int y8)) :
  WS (Jes k [Za (.ref X),a1,a2,Za (.ref Pp),Za (.str one),a5,Za (.str other),Za (.str third),a8] C) N (Wy one other third p0 p1 p2 p3 p4 p5 C):=by
 refine xseq (xset (Je (lstE (arg4 (lstE rfl rfl) (lstE (arg1 (QN (grow gP) rfl rfl rfl rfl)) rfl) (lstE (arg2 (QN (grow (grow gP)) rfl rfl rfl rfl) (QN (grow (grow gP)) rfl rfl rfl rfl)) rfl) (lstE (arg2 (QN (grow (grow (grow gP))) rfl rfl rfl rfl) (QN (grow (grow (grow gP))) rfl rfl rfl rfl)) rfl)) rfl) ?_))
 have xC:∀a b c d e,Ex C (C++[a]++[b]++[c]++[d]++[e]):=λ a b c d e=>(Ex.one _ _).trans ((Ex.one _ _).trans ((Ex.one _ _).trans ((Ex.one _ _).trans (.one _ _))))
 exact WS.mono (Jx2 (k:=k) (p0:=p0) (p1:=p1) (p2:=p2) (p3:=p3) (p4:=p4) (p5:=p5) (one:=one) (other:=other) (N:=N) (grow (grow (grow (grow Jk)))) (grow (grow (grow Jk))) (grow (grow Jk)) (grow Jk) Jk ((xC _ _ _ _ _).get gP) ((xC _ _ _ _ _).get hX) e8) (λ _ _ z=>z) λ v h' w=>w.mono (xC _ _ _ _ _)
end
def mdOf (len:Int)(v:IV):IV:=match v with|.int x=>.int (x%len)|_=>.non
theorem Jt5 {X W:Nat}{xs:List Int}{ws:List Str}{len:Int}(hX:h[X]?=Za (.lst (xs.map .int)))(lx:9<=xs.length)(hW:h[W]?=Za (.lst (ws.map .str)))(lw:ws.length=3)(hw:∀x∈ws,IsNm x)(nd:ws.Nodup)(h1:1<=len) :
  WR (Jd0 (k+1) [.ref X,.int len,.ref W] h) λ v h'=>∃q hs,v=.ref q/\h.length<=q/\h'[q]?=Za (.lst (hs.map tupH))/\HsOk len hs/\Ex h h':=by
 have hb:=J2
 rw[Jlq]
 have l4:(xs.take 6).length=6:=by rw[Zbs];omega
 refine xfin (xseq (xset (xb (xb (WR.mono (Qh (h:=h++[IX.lst ((xs.take 6).map IV.int)]) (xs:=(xs.take 6).map IV.int) (chk:=λ h'=>h'[h.length]?=Za (.lst ((xs.take 6).map IV.int))) (f:=mdOf len) ?_ (by rw[Zi,l4];omega) (λ h2 q=>q _ _ Jk) ?_) ?_)))))
 ·rw[JT]
  refine(Xe ..).mpr (Je rfl (Je rfl (Je rfl ((Jpg ..).mpr ⟨_,hX,?_⟩))))
  rw[show(Za (6:Int))=Za ((6:Nat):Int) from rfl,Job,<-List.map_take]
  exact(JK _).mpr ⟨_,Jk,rfl,rfl,rfl⟩
 ·intro v hv h2 q
  obtain⟨x,hx,rfl⟩:=ZC.mp hv
  unfold Jc0
  exact Je (modE rfl rfl (by omega)) ⟨rfl,.refl _⟩
 ·rintro _ _ ⟨rfl,g,rfl⟩
  have em:((xs.take 6).map IV.int).map (mdOf len)=((xs.take 6).map (· %len)).map IV.int:=by
   rw[Za8,Za8]
   rfl
  rw[em]
  have l5:((xs.take 6).map (· %len)).length=6:=by rw[Zi,l4]
  obtain⟨p0,p1,p2,p3,p4,p5,es,a0,a1,a2,a3,a4,a5,a6⟩:=J4a (ms:=(xs.take 6).map (· %len)) (len:=len) l5 λ x hx=>by
   obtain⟨y,_,rfl⟩:=ZC.mp hx
   exact⟨ZH _ (by omega),ZD _ (by omega)⟩
  generalize hh1:h++[IX.lst ((xs.take 6).map IV.int)]=hA
  have xA:Ex h hA:=by rw[<- hh1];exact .one _ _
  refine Je rfl (Je ((Jvg (ms:=(xs.take 6).map (· %len)) Jz (by omega)).trans (by rw[es])) ?_)
  have xB:Ex hA (hA++IX.lst (((xs.take 6).map (· %len)).map IV.int)::g++[IX.lst ([p0,p1,p2,p3,p4,p5].map IV.int)]):=(Ex.cons _ _ _).trans (.one _ _)
  have gP:(hA++IX.lst (((xs.take 6).map (· %len)).map IV.int)::g++[IX.lst ([p0,p1,p2,p3,p4,p5].map IV.int)])[(hA++IX.lst (((xs.take 6).map (· %len)).map IV.int)::g).length]?=Za (.lst [.int p0,.int p1,.int p2,.int p3,.int p4,.int p5]):=Jk
  generalize (hA++IX.lst (((xs.take 6).map (· %len)).map IV.int)::g).length=Pp at gP ⊢
  generalize hA++IX.lst (((xs.take 6).map (· %len)).map IV.int)::g++[IX.lst ([p0,p1,p2,p3,p4,p5].map IV.int)]=hB at xB gP ⊢
  have xh:=xA.trans xB
  have hX2:=xh.get hX
  have hW2:=xh.get hW
  obtain⟨y6,e6⟩:=at_x (xs:=xs) (n:=6) (by omega)
  obtain⟨y7,e7⟩:=at_x (xs:=xs) (n:=7) (by omega)
  obtain⟨y8,e8⟩:=at_x (xs:=xs) (n:=8) (by omega)
  obtain⟨i,hi⟩:∃i:Nat,y6%3=i:=⟨(y6%3).toNat,by omega⟩
  obtain⟨j,hj⟩:∃j:Nat,(y6+(1+y7%2))%3=j:=⟨((y6+(1+y7%2))%3).toNat,by omega⟩
  obtain⟨l,hl⟩:∃l:Nat,(y6+2*(1+y7%2))%3=l:=⟨((y6+2*(1+y7%2))%3).toNat,by omega⟩
  have hi3:i<ws.length:=by omega
  have hj3:j<ws.length:=by omega
  have hl3:l<ws.length:=by omega
  have aw:∀n (hn:n<ws.length),atI (ws.map IV.str) (n:Int)=Za (.str ws[n]):=λ n hn=>JE (by rw[Zv,Zb hn];rfl)
  have A1:=aw i hi3
  have A2:=aw j hj3
  have A3:=aw l hl3
  rw[<- hi] at A1
  rw[<- hj] at A2
  rw[<- hl] at A3
  have nn:∀{i j:Nat}(hi:i<ws.length)(hj:j<ws.length),i≠j->ws[i]≠ws[j]:=λ hi hj ne e=>ne ((ZcI nd).mp e)
  refine xseq (xset (Je (ixlE rfl (modE (ixlE rfl rfl hX2 e6) rfl (by decide)) hW2 A1) ?_))
  refine xseq (xset (Je (addE rfl (modE (ixlE rfl rfl hX2 e7) rfl (by decide))) ?_))
  refine xseq (xset (Je (ixlE rfl (modE (addE (ixlE rfl rfl hX2 e6) rfl) rfl (by decide)) hW2 A2) ?_))
  refine xseq (xset (Je (ixlE rfl (modE (addE (ixlE rfl rfl hX2 e6) (mulE rfl rfl (.inl (by decide)))) rfl (by decide)) hW2 A3) ?_))
  refine WS.mono (Jx1 (k:=k) (p0:=p0) (p1:=p1) (p2:=p2) (p3:=p3) (p4:=p4) (p5:=p5) (N:=λ _ _=>False) gP hX2 e8) (λ _ _ z=>z.elim) ?_
  rintro v h' ⟨q,n,rfl,lq,gq,x'⟩
  have:=xh.len
  exact⟨q,_,rfl,by omega,gq,Jzj (len:=len) n (hw _ (Z3 hi3)) (hw _ (Z3 hj3)) (hw _ (Z3 hl3)) (nn hi3 hj3 (by omega)) (nn hl3 hi3 (by omega)) (nn hl3 hj3 (by omega)) a0 a1 a2 a3 a4 a5 a6,xh.trans x'⟩
end
end
section
seal L4.run
abbrev tp5 (r:RH)(q:Nat):List IV:=[.int r.1.gap,.int r.1.len,.int r.1.due,.int r.1.late,.ref q]
structure F7 (unit:Int)(r:RH):Prop where
 g1:unit<=r.1.gap
 g2:r.1.gap<8*unit
 l1:1<=r.1.len
 l2:r.1.len<=r.1.gap
 d1:1<=r.1.due
 d2:r.1.due<=r.1.gap
 t1:0<=r.1.late
 t2:r.1.late<=3*r.1.gap/2
 ok:HsOk r.1.len r.2
theorem Jy8 {ws:List Str}(hw:∀x∈ws,IsNm x):ZP (ws.map PyData.str)=Zg:=by
 induction ws with
 | nil=>rfl
 | cons x xs ih =>
  have q:=hw x (Z7 ..)
  have e:Zad (.str x)=Zg:=by
   simp only[Zad]
   unfold PyData.strOk
   rw[<- Array.all_toList,Zbf]
   intro c hc
   have:=q.2.2 c hc
   simp only[decide_eq_true_eq]
   omega
  rw[Z4,ZP,e,ih λ y hy=>hw y (Zp _ hy)]
  rfl
section
variable {k:Nat}{h:IH}
theorem Jnx {W j:Nat}{ws:List Str}(hW:h[W]?=Za (.lst (ws.map .str)))(hw:∀x∈ws,IsNm x)(hj:h[j]?=Za (.lst [])):cNe (.ref W) (.ref j) h=.ok (.bl (!ws.isEmpty)) h:=by
 have e1:toD h 6 (.ref W)=Za (.list (ws.map PyData.str)):=by
  rw[Xv hW,Jnj (g:=λ v=>match v with|.str x=>.str x|_=>.none) λ x hx=>?_]
  ·simp
  ·obtain⟨y,_,rfl⟩:=ZC.mp hx
   rfl
 have e2:toD h 6 (.ref j)=Za (.list []):=by
  rw[Xv hj]
  rfl
 have e3:Qv (.ref W) (.ref j) h=Za ws.isEmpty:=by
  unfold Qv
  rw[e1,e2]
  dsimp only
  rw[if_pos ⟨by rw[Zad];exact Jy8 hw,by rw[Zad,ZP]⟩,Zbv]
  cases ws with
  | nil=>rw[Za6,Zbr];rfl
  | cons a as=>rw[Z4,Zbr];rfl;all_goals intros;simp_all
 unfold cNe
 have e4:Vr (.ref W) (.ref j)=Zc:=rfl
 rw[e4]
 dsimp only
 rw[e3]
theorem pk (xs:List Int)(hn:(xs.length:Int)=n)(h0:0<n):∃x∈xs,atI (xs.map IV.int) (y%n)=Za (.int x):=by
 have a:=ZH y (b:=n) (by omega)
 have b:=ZD y h0
 have l:(y%n).toNat<xs.length:=by omega
 exact⟨xs[(y%n).toNat],Z3 l,Jmy a (by rw[Zv,Zb l];rfl)⟩
theorem intE (ea:a σ h=.ok (.int i) h1)(eb:b σ h1=.ok (.int j) h2):eCB (on1 Xn) (Jb (Jc cGt a b) Jd) σ h=.ok (.int (if j<i then 1 else 0)) h2:=by
 rw[cbE (arg1 (binE ea eb))]
 show Res.ok (IV.int (if decide (j<i)=Zg then 1 else 0)) h2=_
 simp only[decide_eq_true_eq]
theorem pk2 (x y:Int)(m:Int):∃K,atI [IV.int x,IV.int y] (if 5<m then 1 else 0)=Za (.int K)/\((K=x/\¬5<m)∨(K=y/\5<m)):=by
 by_cases l:5<m
 ·exact⟨y,by rw[if_pos l];rfl,.inr ⟨rfl,l⟩⟩
 ·exact⟨x,by rw[if_neg l];rfl,.inl ⟨rfl,l⟩⟩
theorem Juw {c unit m:Int}{ws:List Str}(hu:1<=unit)(hu2:unit<=10^40)(hW:h[W]?=Za (.lst (ws.map .str)))(hw:∀x∈ws,IsNm x)(nd:ws.Nodup)(lw:ws=[]∨ws.length=3) :
  WR (Jd2 (k+2) [.int c,.int unit,.ref W,.int m] h) λ v h'=>Ex h h'/\∃r q,F7 unit r/\(5<m->r.1.gap<3*unit)/\v=.tup (tp5 r q)/\h.length<=q/\h'[q]?=Za (.lst (r.2.map tupH))/\(ws=[]->r.2=[]):=by
 have hb:=J2
 rw[Jls]
 refine xfin (xseq (xset (xb (Je (arg2 rfl rfl) (WR.mono (Jie (k:=k) (h:=h) c 17 (by decide)) ?_)))))
 rintro _ h1 ⟨i,xs,rfl,_,hi,lx,hx,x1⟩
 have at_:∀n:Nat,n<17->∃x,0<=x/\atI (xs.map IV.int) (n:Int)=Za (.int x):=λ n hn=>⟨xs[n],(hx _ (Z3 _)).1,JE (by rw[Zv,Zb (by omega)];rfl)⟩
 obtain⟨y0,z0,e0⟩:=at_ 0 (by decide)
 obtain⟨y1,z1,e1⟩:=at_ 1 (by decide)
 obtain⟨y2,z2,e2⟩:=at_ 2 (by decide)
 obtain⟨y3,z3,e3⟩:=at_ 3 (by decide)
 obtain⟨y4,z4,e4⟩:=at_ 4 (by decide)
 obtain⟨y5,z5,e5⟩:=at_ 5 (by decide)
 obtain⟨y6,z6,e6⟩:=at_ 6 (by decide)
 obtain⟨y7,z7,e7⟩:=at_ 7 (by decide)
 clear at_ hx
 obtain⟨K,eK,hK⟩:=pk2 7 2 m
 have k0:=ZH y0 (b:=K) (by omega)
 have k1:=ZD y0 (b:=K) (by omega)
 have b1:unit*1<=unit*(1+y0%K):=Zbl (by omega) (by omega)
 have b2:unit*(1+y0%K)<=unit*7:=Zbl (by omega) (by omega)
 have b5:5<m->unit*(1+y0%K)<=unit*2:=λ _=>Zbl (by omega) (by omega)
 have b3:=ZH y1 (b:=1+unit/2) (by omega)
 have b4:=ZD y1 (b:=1+unit/2) (by omega)
 refine xseq (xset (Je (addE (mulE rfl (addE rfl (modE (ixlE rfl rfl hi e0) (pkE (arg2 rfl rfl) rfl (intE rfl rfl) eK) (by omega))) (.inr (.inl (by omega)))) (modE (ixlE rfl rfl (grow hi) e1) (addE rfl (Qk rfl rfl (by decide) (by decide))) (by omega))) ?_))
 obtain⟨g,eg,g1,g2,g3⟩:∃g,unit*(1+y0%K)+y1%(1+unit/2)=g/\unit<=g/\g<8*unit/\(5<m->g<3*unit):=⟨_,rfl,by omega,by omega,λ l=>by have:=b5 l;omega⟩
 rw[eg]
 have x0:Ex h1 (h1++[IX.lst [IV.int 7,IV.int 2]]):=.one _ _
 generalize h1++[IX.lst [IV.int 7,IV.int 2]]=h1' at x0
 have hi:=x0.get hi
 have x1:=x1.trans x0
 clear x0
 revert hi x1
 generalize h1'=h1
 intro hi x1
 clear b5 k0 k1 hK eK
 clear eg b1 b2 b3 b4
 have pg':(0:Int)<g:=by omega
 have d1:=ZH y2 (b:=g) (by omega)
 have d2:=ZD y2 pg'
 obtain⟨dd,hd,ed⟩:=pk (n:=2) (y:=y3) [0,y2%g] rfl (by decide)
 have hd:0<=dd/\dd<g:=by simp only[Z6,ZT,or_false] at hd;omega
 refine xseq (xset (Je (subE rfl (pkE (arg2 rfl (modE (ixlE rfl rfl hi e2) rfl pg')) rfl (modE (ixlE rfl rfl (grow hi) e3) rfl (by decide)) ed)) ?_))
 have xA:Ex h1 (h1++[IX.lst [IV.int 0,IV.int (y2%g)]]):=.one _ _
 generalize h1++[IX.lst [IV.int 0,IV.int (y2%g)]]=hA at xA ⊢
 have hiA:=xA.get hi
 have t1:=ZH y4 (b:=1+g/3) (by omega)
 have t2:=ZD y4 (b:=1+g/3) (by omega)
 have t3:=ZH y4 (b:=1+3*g/2) (by omega)
 have t4:=ZD y4 (b:=1+3*g/2) (by omega)
 obtain⟨lt,hl,el⟩:=pk (n:=4) (y:=y5) [0,0,y4%(1+g/3),y4%(1+3*g/2)] rfl (by decide)
 have hl:0<=lt/\lt<=3*g/2:=by simp only[Z6,ZT,or_false] at hl;omega
 refine xseq (xset (Je (pkE (arg4 rfl rfl (modE (ixlE rfl rfl hiA e4) (addE rfl (Qk rfl rfl (by decide) (by decide))) (by omega)) (modE (ixlE rfl rfl hiA e4) (addE rfl (Qk (mulE rfl rfl (.inl (by decide))) rfl (by decide) (by decide))) (by omega))) rfl (modE (ixlE rfl rfl (grow hiA) e5) rfl (by decide)) el) ?_))
 have xB:Ex hA (hA++[IX.lst [IV.int 0,IV.int 0,IV.int (y4%(1+g/3)),IV.int (y4%(1+3*g/2))]]):=.one _ _
 generalize hA++[IX.lst [IV.int 0,IV.int 0,IV.int (y4%(1+g/3)),IV.int (y4%(1+3*g/2))]]=hB at xB ⊢
 have hiB:=xB.get hiA
 obtain⟨K,eK,hK⟩:=pk2 4 5 m
 have k0:=ZH y7 (b:=K) (by omega)
 have k1:=ZD y7 (b:=K) (by omega)
 obtain⟨dv,hv,ev⟩:=pk (n:=5) (y:=y7%K) [1,2,4,9,25] rfl (by decide)
 rw[Int.emod_eq_of_lt k0 (by omega)] at ev
 have hv:0<dv/\dv<=25:=by simp only[Z6,ZT,or_false] at hv;omega
 obtain⟨M,eM,M1,M2⟩:∃M:Int,(if g/dv>1 then g/dv else 1)=M/\1<=M/\M<=g:=by
  have:g/dv<=g:=Int.ediv_le_self _ (by omega)
  split
  ·exact⟨_,rfl,by omega,this⟩
  ·exact⟨_,rfl,by omega,by omega⟩
 have s1:=ZH y6 (b:=M) (by omega)
 have s2:=ZD y6 (b:=M) (by omega)
 refine xseq (xset (Je (addE rfl (modE (ixlE rfl rfl hiB e6) (okc (maxE rfl (Qk rfl (ixlE (lstE (show Jb _ _ _ hB=.ok [IV.int 1,IV.int 2,IV.int 4,IV.int 9,IV.int 25] hB from rfl) rfl) (modE (ixlE rfl rfl (grow hiB) e7) (pkE (arg2 rfl rfl) rfl (intE rfl rfl) eK) (by omega)) (grow Jk) ev) hv.1 (Jj6 (b:=25) (by omega) (by decide)))) (congrArg IV.int eM)) (by omega))) ?_))
 generalize hlen:1+y6%M=len
 have xC:Ex hB (hB++[IX.lst [IV.int 1,IV.int 2,IV.int 4,IV.int 9,IV.int 25]]++[IX.lst [IV.int 4,IV.int 5]]):=(Ex.one _ _).trans (.one _ _)
 generalize hB++[IX.lst [IV.int 1,IV.int 2,IV.int 4,IV.int 9,IV.int 25]]++[IX.lst [IV.int 4,IV.int 5]]=hC at xC ⊢
 have x1C:=((x1.trans xA).trans xB).trans xC
 have lC:=x1C.len
 have hiC:=(xB.trans xC).get hiA
 have xD:Ex hC (hC++[IX.lst []]++[IX.lst []]):=(Ex.one _ _).trans (.one _ _)
 have gE:(hC++[IX.lst []]++[IX.lst []])[hC.length]?=Za (.lst []):=grow Jk
 have base:∀hs:List Hd,HsOk len hs->F7 unit (⟨⟨⟨#[]⟩,g,len,g-dd,lt⟩,hs⟩:RH):=λ hs ok=>⟨g1,g2,by show 1<=len;omega,by show len<=g;omega,by show 1<=g-dd;omega,by show g-dd<=g;omega,hl.1,hl.2,ok⟩
 have tst:∀{σ:ISt}{a:E1},a σ (hC++[IX.lst []])=.ok (.ref W) (hC++[IX.lst []])->Jh asB (Jc cNe a (Jw Jd)) σ (hC++[IX.lst []])=.ok (!ws.isEmpty) (hC++[IX.lst []]++[IX.lst []]):=λ ea=>tofE ((binE ea (lstE rfl rfl)).trans (Jnx (xD.get (x1C.get hW)) hw Jk))
 refine xseq (xset (Je (lstE rfl rfl) (xseq ?_)))
 rcases lw with rfl|lw
 ·exact xiff (tst rfl) (xnil (xret (Je (tupE rfl rfl) ⟨x1C.trans xD,⟨⟨⟨#[]⟩,g,len,g-dd,lt⟩,[]⟩,_,base [] ⟨by simp,by simp,λ m n hm hn=>absurd hn (by simp)⟩,g3,rfl,by omega,gE,λ _=>rfl⟩)))
 ·have ne:ws.isEmpty=Zj:=by cases ws with|nil=>simp at lw|cons _ _=>rfl
  refine xift (okc (tst rfl) (by rw[ne];rfl)) (xset (xb (xb ?_)))
  refine(Xe ..).mpr (Je rfl (Je rfl (Je rfl ((Jpg ..).mpr ⟨_,xD.get hiC,?_⟩))))
  rw[show(Za (8:Int))=Za ((8:Nat):Int) from rfl,Joa,<-Zel]
  have xE:Ex (hC++[IX.lst []]++[IX.lst []]) (hC++[IX.lst []]++[IX.lst []]++[IX.lst ((xs.drop 8).map IV.int)]):=.one _ _
  refine xb (Je (arg2 rfl rfl) (Je rfl (WR.mono (Jt5 (k:=k) Jk (by rw[ZcJ];omega) (xE.get (xD.get (x1C.get hW))) lw hw nd (by omega)) ?_)))
  rintro _ h3 ⟨q,hs,rfl,hq,gq,ok,x3⟩
  have l1:=(xD.trans xE).len
  exact xret (Je (tupE rfl rfl) ⟨(x1C.trans (xD.trans xE)).trans x3,⟨⟨⟨#[]⟩,g,len,g-dd,lt⟩,hs⟩,q,base hs ok,g3,rfl,by omega,gq,λ e=>by rw[e] at ne;cases ne⟩)
end
end
section
seal L4.run L4.WS
abbrev tp6 (r:RH)(q:Nat):IV:=.tup (.str r.1.name::tp5 r q)
structure RowT (h:IH)(lo:Nat)(ys:List IV)(rs:List RH):Prop where
 len:ys.length=rs.length
 at_:∀(i:Nat) y r,ys[i]?=Za y->rs[i]?=Za r->∃q,y=tp6 r q/\q≠lo/\h[q]?=Za (.lst (r.2.map tupH))
theorem RowT.kpb (k:KpB lo h h')(w:RowT h lo ys rs):RowT h' lo ys rs:=⟨w.len,λ i y r a b=>let ⟨q,e,n,g⟩:=w.at_ i y r a b;⟨q,e,n,k _ _ n g⟩⟩
theorem RowT.kp (k:Kp h h')(w:RowT h lo ys rs):RowT h' lo ys rs:=w.kpb λ _ _ _ q=>k _ _ q
theorem RowT.get {lo:Nat}(w:RowT h lo ys rs){n:Nat}(e:rs[n]?=Za r):∃q,ys[n]?=Za (tp6 r q)/\h[q]?=Za (.lst (r.2.map tupH)):=by
 have hn:n<ys.length:=by rw[w.len];exact(Zr.mp e).1
 obtain⟨q,e1,_,g⟩:=w.at_ n _ r (Zb hn) e
 exact⟨q,by rw[Zb hn,e1],g⟩
theorem RowT.snoc {r:RH}(w:RowT h lo ys rs)(n:q≠lo)(g:h[q]?=Za (.lst (r.2.map tupH))):RowT h lo (ys++[tp6 r q]) (rs++[r]):=by
 have wl:=w.len
 refine⟨by simp[wl],λ i y s a b=>?_⟩
 by_cases hi:i<ys.length
 ·rw[ZE hi] at a
  rw[ZE (by omega)] at b
  exact w.at_ i y s a b
 ·have li:=(Zr.mp a).1
  rw[Zt,Zac] at li
  obtain rfl:i=ys.length:=by omega
  rw[Z9 (Zo _),Zde] at a
  rw[wl,Z9 (Zo _),Zde] at b
  cases a
  cases b
  exact⟨q,rfl,n,g⟩
structure Dr (c unit:Int)(rs:List RH):Prop where
 u1:1<=unit
 u2:unit<=10^40
 f:∀r∈rs,F7 unit r
 nm:(rs.map λ r=>r.1.name)=(ZN rs.length).map (wd c)
theorem F7.to8 (f:F7 unit r)(hu:1<=unit)(hn:IsNm r.1.name):F8 unit r:=by
 have g1:=f.g1
 have g2:=f.g2
 have t2:=f.t2
 exact⟨hn,f.g1,by omega,f.l1,f.d1,f.d2,f.t1,by omega,f.ok⟩
theorem Dr.gd (D:Dr c unit rs)(hl:rs.length<=12)(sm:rs.length<=7∨∀r∈rs,r.1.gap<3*unit):Gd unit rs:=by
 refine⟨D.u1,D.u2,hl,sm,λ r hr=>(D.f r hr).to8 D.u1 ?_,?_⟩
 ·have:r.1.name∈(ZN rs.length).map (wd c):=by rw[<- D.nm];exact List.mem_map_of_mem hr
  obtain⟨j,_,e⟩:=ZC.mp this
  rw[<- e]
  exact Js8 c j
 ·rw[D.nm,List.Nodup,Zdv]
  refine(ZdC (n:=rs.length)).imp_of_mem λ {a b} ha hb hne e=>hne ?_
  exact Jw9 (by have:=Zal.mp ha;omega) (by have:=Zal.mp hb;omega) e
def SQ (h:IH)(held:Bool)(v:IV)(h':IH):Prop:=Ex h h'/\∃S lo ys rs c unit,v=.ref S/\h.length<=S/\h'[S]?=Za (.lst ys)/\RowT h' lo ys rs/\Dr c unit rs/\rs.length<=12/\(rs.length<=7∨∀r∈rs,r.1.gap<3*unit)/\(held=Zj->∀r∈rs,r.2=[])
def wOf (c:Int)(v:IV):IV:=match v with
 | .int q=>.str (wd c q.toNat)
 | _=>.non
section
variable {k:Nat}{h:IH}
theorem e15 (σ:ISt)(h:IH):Jc JJ (eC (.int 10)) (eC (.int 15)) σ h=.ok (.int (10^15)) h:=Js (by
 rw[Vv,Qm,Qm,VJ]
 exact⟨by decide,rfl,rfl⟩)
theorem e40 (σ:ISt)(h:IH):Jc JJ (eC (.int 10)) (eC (.int 40)) σ h=.ok (.int (10^40)) h:=Js (by
 rw[Vv,Qm,Qm,VJ]
 exact⟨by decide,rfl,rfl⟩)
def SmI (h hB:IH)(ns:List Int)(held:Bool)(x0 unit x1:Int)(m W:Nat)(n:Nat)(σ:ISt)(h':IH):Prop:=∃ys rs g a b,h'=hB++.lst ys::g/\σ=[Za (.rol (ns.map .int)),Za (.bl held),Za (.int x0),Za (.int unit),Za (.int x1),Za (.int (m:Int)),Za (.ref W),Za (.ref hB.length),a,b]/\RowT h' hB.length ys rs/\rs.length=n/\Dr (x1/7) unit rs/\(5<m->∀r∈rs,r.1.gap<3*unit)/\(held=Zj->∀r∈rs,r.2=[])
theorem Jy9 (ns:List Int)(held:Bool):WR (Jft (k+4) [.rol (ns.map .int),.bl held] h) (SQ h held):=by
 have hb:=J2
 rw[Jnc]
 have c0:=Jjs (k:=k+2) (h:=h) ns 0 (by decide)
 have c1:=λ (h:IH)=>Jjs (k:=k+2) (h:=h) ns 1 (by decide)
 generalize ns.getD (Zc1 0) 0=x0 at c0
 generalize ns.getD (Zc1 1) 0=x1 at c1
 obtain⟨U,hU,eU⟩:=pk (n:=4) (y:=x0) [4,10^15,10^15,10^40] rfl (by decide)
 have hU:0<U/\U<=10^40:=by
  simp only[Z6,ZT,or_false] at hU
  rcases hU with rfl|rfl|rfl|rfl<;>decide +kernel
 have u0:=ZH (x0/4) (b:=U) (by omega)
 have u1:=ZD (x0/4) hU.1
 have hx:x0/4%U<10^40:=Int.lt_of_lt_of_le u1 hU.2
 have E:∀{σ:ISt}{hh:IH},Jb (eC (.int 4)) (Jb (Jc JJ (eC (.int 10)) (eC (.int 15))) (Jb (Jc JJ (eC (.int 10)) (eC (.int 15))) (Jb (Jc JJ (eC (.int 10)) (eC (.int 40))) Jd))) σ hh=.ok [IV.int 4,IV.int (10^15),IV.int (10^15),IV.int (10^40)] hh:=λ {σ hh}=>arg4 rfl (e15 σ hh) (e15 σ hh) (e40 σ hh)
 refine xfin (xseq (xset (Je (JN (arg2 rfl rfl) c0) (xseq (xset ?_)))))
 refine Je (addE rfl (modE (Qk rfl rfl (by decide) (by decide)) (pkE E rfl (modE rfl rfl (by decide)) eU) hU.1)) ?_
 refine xseq (xset (Je (JN (arg2 rfl rfl) (c1 _)) (xseq (xset (Je (modE rfl rfl (by decide)) (xseq ?_))))))
 obtain⟨m,em,lm⟩:∃m:Nat,(m:Int)=(if x1/6%8=5 then 6+x1/48%7 else x1%6)/\m<=12:=by
  split
  ·exact⟨(6+x1/48%7).toNat,by omega,by omega⟩
  ·exact⟨(x1%6).toNat,by omega,by omega⟩
 suffices go:WS (Jgb (k+3) [Za (.rol (ns.map .int)),Za (.bl held),Za (.int x0),Za (.int (1+x0/4%U)),Za (.int x1),Za (.int (m:Int)),Zc,Zc,Zc,Zc] (h++[IX.lst [IV.int 4,IV.int (10^15),IV.int (10^15),IV.int (10^40)]])) (λ _ h=>SQ h held .non h) (SQ h held) by
  have e:=em
  refine xifd (eqE (modE (Qk rfl rfl (by decide) (by decide)) rfl (by decide)) rfl) (λ l=>?_) λ l=>?_
  ·rw[if_pos l] at e
   refine xset (Je (okc (addE rfl (modE (Qk rfl rfl (by decide) (by decide)) rfl (by decide))) (congrArg IV.int e.symm)) ?_)
   exact WS.mono go (λ _ _ z=>z.2.elim λ _ z=>by obtain⟨_,_,_,_,_,z,_⟩:=z;cases z) λ _ _ z=>z
  ·rw[if_neg l] at e
   refine xnil ?_
   rw[<- e]
   exact WS.mono go (λ _ _ z=>z.2.elim λ _ z=>by obtain⟨_,_,_,_,_,z,_⟩:=z;cases z) λ _ _ z=>z
 refine xseq (xset (Je (lstE rfl rfl) (xseq ?_)))
 generalize hu:1+x0/4%U=unit
 have hu1:1<=unit:=by omega
 have hu2:unit<=10^40:=by
  clear eU
  generalize (10:Int)^40=y at hx
  omega
 have xA:Ex h (h++[IX.lst [IV.int 4,IV.int (10^15),IV.int (10^15),IV.int (10^40)]]++[IX.lst []]):=(Ex.one _ _).trans (.one _ _)
 have gA:(h++[IX.lst [IV.int 4,IV.int (10^15),IV.int (10^15),IV.int (10^40)]]++[IX.lst []])[(h++[IX.lst [IV.int 4,IV.int (10^15),IV.int (10^15),IV.int (10^40)]]).length]?=Za (.lst []):=Jk
 have loop:∀(hB:IH)(W:Nat)(ws:List Str),Ex h hB->hB[W]?=Za (.lst (ws.map .str))->(∀x∈ws,IsNm x)->ws.Nodup->(ws=[]∨ws.length=3)->(held=Zj->ws=[])->∀N:ISt->IH->Prop,
   WS (Jgc (k+3) [Za (.rol (ns.map .int)),Za (.bl held),Za (.int x0),Za (.int unit),Za (.int x1),Za (.int (m:Int)),Za (.ref W),Zc,Zc,Zc] hB) N (SQ h held):=by
  intro hB W ws xB gW hw nd lw hh N
  refine xseq (xset (Je (lstE rfl rfl) (xseq (xrng (n:=m) rfl (by omega) ?_))))
  refine Qn (SmI h hB ns held x0 unit x1 m W) (λ _ _ _ _=>trivial) ?_ ?_ ⟨[],[],[],Zc,Zc,rfl,rfl,⟨rfl,λ i y r a b=>by simp at a⟩,rfl,⟨hu1,hu2,by simp,rfl⟩,by simp,by simp⟩
  ·rintro n hn _ _ ⟨ys,rs,g,a,b,rfl,rfl,w,ln,D,h5,hr⟩
   rw[VG]
   rw[Ql] at hn
   have hn6:n<12:=by omega
   rw[show(0+(n:Int))=(n:Int) by omega]
   have gW':(hB++IX.lst ys::g)[W]?=Za (.lst (ws.map .str)):=grow gW
   refine xnx rfl (xseq (xset (xb (Je (arg4 (addE (JN (arg2 rfl (addE rfl (modE rfl rfl (by decide)))) (Jjs (k:=k+2) ns (2+(n:Int)%5) (by omega))) (mulE rfl rfl (.inl (by decide)))) rfl rfl rfl) (WR.mono (Juw (k:=k+1) (m:=(m:Int)) hu1 hu2 gW' hw nd lw) ?_)))))
   rintro _ h3 ⟨⟨g3,rfl⟩,r,q,f,f5,rfl,hq,gq,hz⟩
   have e3:hB++IX.lst ys::g++g3=hB++IX.lst ys::(g++g3):=by simp
   refine Qs (QP (i:=hB.length) rfl (by rw[e3];exact Jz) V6 (xb (xb (xtup (xb (xb (Je (arg2 (Qk rfl rfl (by decide) (by decide)) rfl) (WR.mono (Js9 (k:=k+2) (x1/7) n) ?_))))))))
   rintro _ _ ⟨rfl,g4,rfl⟩
   have e4:hB++IX.lst ys::g++g3++g4=hB++IX.lst ys::(g++g3++g4):=by simp
   have kB:KpB hB.length (hB++IX.lst ys::g) (hB++IX.lst ys::(g++g3++g4)):=λ j o _ z=>by rw[<- e4];exact grow (grow z)
   have w4:=w.kpb kB
   have gq4:(hB++IX.lst ys::(g++g3++g4))[q]?=Za (.lst (r.2.map tupH)):=by rw[<- e4];exact grow gq
   have hq':q≠hB.length:=by rw[Zt,ZB] at hq;omega
   have ly:ys.length<=12:=by have:=w.len;omega
   rw[e4]
   have ea:Jl (.tup [.str (wd (x1/7) n)]) (.tup (tp5 r q)) (hB++IX.lst ys::(g++g3++g4))=.ok (tp6 ⟨{ r.1 with name:=wd (x1/7) n },r.2⟩ q) (hB++IX.lst ys::(g++g3++g4)):=by
    simp only[Jl]
    rw[if_pos ⟨by simp,by simp,by simp;omega⟩]
    rfl
   refine xb (Je rfl (Je rfl ⟨by show(1:Nat)<=_;omega,xb (Je rfl (Je ea (xb (Je rfl (Je rfl (xapp Jz (by omega) ?_))))))⟩))
   rw[VZ]
   refine⟨ys++[tp6 ⟨{ r.1 with name:=wd (x1/7) n },r.2⟩ q],rs++[⟨{ r.1 with name:=wd (x1/7) n },r.2⟩],g++g3++g4,_,_,rfl,rfl,?_,by simp[ln],⟨hu1,hu2,?_,?_⟩,?_,?_⟩
   ·have kC:KpB hB.length (hB++IX.lst ys::(g++g3++g4)) (hB++IX.lst (ys++[tp6 ⟨{ r.1 with name:=wd (x1/7) n },r.2⟩ q])::(g++g3++g4)):=λ j o hj z=>by
     rw[<- VZ (IX.lst ys),ZI (ZQ hj)]
     exact z
    exact(w4.kpb kC).snoc hq' (kC _ _ hq' gq4)
   ·intro s hs
    rw[ZM,Zy] at hs
    rcases hs with hs|rfl
    ·exact D.f s hs
    ·exact⟨f.g1,f.g2,f.l1,f.l2,f.d1,f.d2,f.t1,f.t2,f.ok⟩
   ·rw[Zbp,D.nm,Zt,Zac,List.range_succ,Zbp,ln]
    rfl
   ·intro z s hs
    rw[ZM,Zy] at hs
    rcases hs with hs|rfl
    ·exact h5 z s hs
    ·exact f5 (by omega)
   ·intro z s hs
    rw[ZM,Zy] at hs
    rcases hs with hs|rfl
    ·exact hr z s hs
    ·exact hz (hh z)
  ·rintro _ _ ⟨ys,rs,g,a,b,rfl,rfl,w,ln,D,h5,hr⟩
   rw[Ql] at ln
   have:=xB.len
   exact xret (Je rfl ⟨xB.trans (.cons _ _ _),_,_,ys,rs,x1/7,unit,rfl,this,Jz,w,D,by omega,(if l:m<=5 then .inl (by omega) else .inr (h5 (by omega))),hr⟩)
 cases held with
 | false=>exact xiff (truE rfl) (xnil (loop _ _ [] xA gA (by simp) (by simp) (.inl rfl) (λ _=>rfl) _))
 | true =>
  refine xift (truE rfl) (xset (WR.mono (Qh (h:=h++[IX.lst [IV.int 4,IV.int (10^15),IV.int (10^15),IV.int (10^40)]]++[IX.lst []]) (xs:=rngI 0 3) (chk:=λ _=>True) (f:=wOf (x1/5)) ?_ (by rw[Ql];omega) (λ _ _=>trivial) ?_) ?_))
  ·rw[Vw]
   refine Je (arg1 rfl) ?_
   rw[Xd]
   exact⟨by omega,rfl,rfl,rfl⟩
  ·intro x hx h2 q
   obtain⟨n,hn,rfl⟩:=Zax.mp hx
   rw[VG,show(0+(n:Int))=(n:Int) by omega]
   unfold Jdu
   refine xb (Je (arg2 (Qk rfl rfl (by decide) (by decide)) rfl) (WR.mono (Js9 (k:=k+2) (x1/5) n) ?_))
   rintro _ h3 ⟨rfl,x3⟩
   exact⟨by simp[wOf],x3⟩
  ·rintro _ _ ⟨rfl,g,rfl⟩
   have em:(rngI 0 3).map (wOf (x1/5))=((ZN 3).map (wd (x1/5))).map IV.str:=by
    refine Zbg (by rw[Zi,Ql,Zi,Zi,Zbm];rfl) λ i h1 h2=>?_
    rw[ZJ,VG,ZJ,ZJ,ZbM]
    simp[wOf]
   rw[em]
   refine loop _ _ ((ZN 3).map (wd (x1/5))) (xA.trans (.cons _ _ _)) Jz (λ x hx=>?_) ?_ (.inr (by simp)) (λ z=>by cases z) _
   ·obtain⟨j,_,rfl⟩:=ZC.mp hx
    exact Js8 _ j
   ·rw[List.Nodup,Zdv]
    refine(ZdC (n:=3)).imp_of_mem λ {a b} ha hb hne e=>hne ?_
    exact Jw9 (by have:=Zal.mp ha;omega) (by have:=Zal.mp hb;omega) e
end
end
section
variable {k:Nat}{h h1:IH}{σ:ISt}
theorem Jtc:WR (Xl σ h) Q=Q (.ref h.length) (h++[.dct []]):=rfl
theorem Jtd (e:o σ h=.ok (.ref i) h1)(hl:h1[i]?=Za (.dct kvs))(hg:bmOf "dict" m n=Za g):WR (Jo P m n o a σ h) Q=WR (a σ h1) λ vs h2=>WR (g (.ref i) vs h2) Q:=by
 unfold Jo
 rw[e]
 have hi:VW (.ref i) h1=Zj:=by simp[VW,hl]
 have ht:tyS (.ref i) h1="dict":=by simp[tyS,hl]
 dsimp only
 rw[hi,ht,hg]
 dsimp only
 rw[if_neg Zs]
 unfold eBm
 rw[e,Jv,Vy]
 have:tyOk "dict" (.ref i) h1=Zg:=by simp[tyOk,hl]
 rw[if_pos this,Jv]
theorem Jk6:bmOf "dict" "setdefault" 2=Za Xa:=by kernel_rfl
theorem Jpf (hi:h[i]?=Za (.dct kvs))(e:valI kvs (.inr x)=Za w):WR (Xa (.ref i) [.str x,v] h) Q=Q w h:=by
 unfold Xa
 simp only[hi,keyI,e]
 rfl
theorem Jpe (hi:h[i]?=Za (.dct kvs))(e:valI kvs (.inr x)=Zc)(hl:kvs.length<sizeLine):WR (Xa (.ref i) [.str x,v] h) Q=Q v (h.set i (.dct (kvs++[(.inr x,v)]))):=by
 unfold Xa
 simp only[hi,keyI,e,hl,if_true]
 rfl
end
theorem Js7 (kvs:List (Key×IV))(k k':Key)(v:IV):valI (kvs++[(k,v)]) k'=match valI kvs k' with
  | some w=>Za w
  | none=>if k=k' then Za v else Zc:=by
 induction kvs with
 | nil =>
  by_cases e:k=k'
  ·rw[Zag,QO e,if_pos e];rfl
  ·rw[Zag,Q8 e,if_neg e];rfl
 | cons p r ih =>
  by_cases e:p.1=k'
  ·rw[ZU,QO e,QO e]
  ·rw[ZU,Q8 e,Q8 e,ih]
def has (x:Str)(hs:List Hd):Bool:=hs.any λ a=>decide (a.1=x)
def fstK (hss:List (List Hd))(x:Str):Option Nat:=hss.findIdx? (has x)
def fV (o:Option Nat):IV:=match o with
 | some i=>.int (i:Int)
 | none=>.non
theorem Jrn (hss:List (List Hd))(hs:List Hd)(x:Str):fstK (hss++[hs]) x=match fstK hss x with
  | some i=>Za i
  | none=>if has x hs=Zg then Za hss.length else Zc:=by
 unfold fstK
 rw[List.findIdx?_append]
 cases hss.findIdx? (has x) with
 | some i=>rfl
 | none =>
  by_cases e:has x hs=Zg
  ·simp[Zdq,e]
  ·simp[Zdq,e]
theorem Jof (x:Str)(hs:List Hd)(a:Hd):has x (hs++[a])=(has x hs||decide (a.1=x)):=by simp[has]
section
variable {k:Nat}{h:IH}
theorem dls:(([("works",a)]:List (Str×IV))).lookup ("size":Str)=Zc:=by kernel_rfl
theorem Jhq (hD:h[D]?=Za (.ins "Duty" (dfs vs))):Jdw (k+1) [.ref D] h=.ok (.int vs.length) h:=by
 refine Js ?_
 rw[Jlk]
 simp! [Jeo,Qg hD,dl0]
def Told (kvs:List (Key×IV))(hss:List (List Hd))(n:Nat)(hs:List Hd):Prop:=∀x,valI kvs (.inr x)=match fstK hss x with
 | some i=>Za (.int (i:Int))
 | none=>if has x hs=Zg then Za (.int (n:Int)) else Zc
theorem Told.next (t:Told kvs hss n hs)(hn:hss.length=n):Told kvs (hss++[hs]) (n+1) []:=λ x=>by
 subst hn
 rw[t x,Jrn]
 cases fstK hss x with
 | some i=>rfl
 | none =>
  by_cases e:has x hs=Zg
  ·simp only[e,if_true]
  ·simp only[e];rfl
theorem Told.old {a:Hd}(t:Told kvs hss n hs)(e:valI kvs (.inr a.1)=Za w):Told kvs hss n (hs++[a]):=λ x=>by
 rw[t x]
 cases ef:fstK hss x with
 | some i=>rfl
 | none =>
  dsimp only
  rw[Jof]
  by_cases ea:a.1=x
  ·have:=t x
   rw[<- ea,e,ea,ef] at this
   dsimp only at this
   by_cases q:has x hs=Zg
   ·simp[q]
   ·rw[if_neg q] at this
    cases this
  ·simp[ea]
theorem Told.new {a:Hd}(t:Told kvs hss n hs)(e:valI kvs (.inr a.1)=Zc):Told (kvs++[(.inr a.1,.int (n:Int))]) hss n (hs++[a]):=λ x=>by
 rw[Js7,t x]
 cases ef:fstK hss x with
 | some i=>rfl
 | none =>
  dsimp only
  rw[Jof]
  by_cases q:has x hs=Zg
  ·simp[q]
  ·by_cases ea:a.1=x
   ·simp[q,ea]
   ·have:¬((.inr a.1:Key)=.inr x):=λ z=>ea (Sum.inr.inj z)
    simp[q,ea]
theorem Jm3 {vs:List IV}{rs:List RH}{D:Nat}(hD:h[D]?=Za (.ins "Duty" (dfs vs)))(w:AllH h vs rs)(hl:rs.length<=12)(h6:∀r∈rs,r.2.length<=6) :
  WR (Yc (k+2) [.ref D] h) λ v h'=>∃i kvs,v=.ref i/\h'[i]?=Za (.dct kvs)/\(∀x,(valI kvs (.inr x)).getD .non=fV (fstK (rs.map (·.2)) x))/\Ex h h':=by
 have hb:=J2
 have wl:=w.len
 rw[Jhv]
 simp! [Jcr,Jcs,Jtc]
 rw[Qr (i:=D) (h1:=h++[.dct []]) rfl (grow hD) dls (Jc8 _)]
 simp! [Jhq (grow hD)]
 refine⟨by omega,?_⟩
 refine Qn (λ n σ h'=>∃kvs g a b,h'=h++IX.dct kvs::g/\σ=[Za (.ref D),Za (.ref h.length),a,b]/\kvs.length<=6*n/\Told kvs ((rs.map (·.2)).take n) n []) (λ _ _ _ _=>trivial) ?_ ?_ ⟨[],[],Zc,Zc,rfl,rfl,by simp,λ x=>by simp[valI,fstK,has]⟩
 ·rintro n hn _ _ ⟨kvs,g,a,b,rfl,rfl,ln,td⟩
  rw[VG]
  rw[Ql] at hn
  have hn':n<rs.length:=by omega
  have en:(0:Int)+(n:Int)=n:=by omega
  obtain⟨j,ej,gj⟩:=w.at_ n _ _ (Zb (by omega)) (Zb hn')
  have av:atI vs (n:Int)=Za (.ref j):=JE (by rw[Zb (by omega),ej])
  have hl6:=h6 _ (Z3 hn')
  have hm:n<(rs.map (·.2)).length:=by rw[Zi];exact hn'
  have tk:(rs.map (·.2)).take (n+1)=(rs.map (·.2)).take n++[(rs[n]).2]:=by rw[Zai hm,ZJ]
  rw[tk]
  generalize rs[n]=r at gj hl6
  simp! [en,Jch]
  have x1:Ex h (h++IX.dct kvs::g):=.cons _ _ _
  have ed:Jo (pg (k+1)) "work" 1 (Ja 0) (Jb (Ja 2) Jd) [Za (IV.ref D),Za (IV.ref h.length),Za (IV.int (n:Int)),b] (h++IX.dct kvs::g)=.ok (.ref j) (h++IX.dct kvs::g):=by
   refine Js ?_
   rw[Qr (i:=D) (h1:=h++IX.dct kvs::g) rfl (x1.get hD) dlw (Jbg _)]
   simp! [Jfk (x1.get hD) av]
  rw[Qr (i:=j) (h1:=h++IX.dct kvs::g) ed (x1.get gj) flh (Jbh _)]
  simp! [Jfq (x1.get gj),JK,Jk]
  generalize r.2=hs at hl6
  refine Qn (λ m σ h'=>∃kvs' b',h'=h++IX.dct kvs'::(g++[IX.lst (hs.map tupH)])/\σ=[Za (.ref D),Za (.ref h.length),Za (.int (n:Int)),b']/\kvs'.length<=6*n+m/\Told kvs' ((rs.map (·.2)).take n) n (hs.take m)) ?_ ?_ ?_ ⟨kvs,b,by rw[ZZ,ZU],rfl,by omega,td⟩
  ·rintro _ _ _ ⟨kvs',b',rfl,_⟩
   rw[show h++IX.dct kvs'::(g++[IX.lst (hs.map tupH)])=(h++IX.dct kvs'::g)++[IX.lst (hs.map tupH)] by rw[ZZ,ZU],
    show(h++IX.dct kvs::g).length=(h++IX.dct kvs'::g).length by simp]
   exact Jk
  ·rintro m hm _ _ ⟨kvs',b',rfl,rfl,lm,tm⟩
   have hm':m<hs.length:=by simpa using hm
   rw[ZJ,Zai hm']
   generalize hs[m]=a at *
   simp! [Jfn]
   rw[Jtd (i:=h.length) (h1:=h++IX.dct kvs'::(g++[IX.lst (hs.map tupH)])) rfl Jz Jk6]
   simp! [tupH]
   cases ev:valI kvs' (.inr a.1) with
   | some w' =>
    rw[Jpf Jz ev]
    exact⟨kvs',_,rfl,rfl,by omega,tm.old ev⟩
   | none =>
    rw[Jpe Jz ev (by omega),VZ]
    exact⟨_,_,rfl,rfl,by rw[Zt,Zac];omega,tm.new ev⟩
  ·rintro _ _ ⟨kvs',b',rfl,rfl,lm,tm⟩
   rw[Zi] at lm tm
   rw[Zaz (Zo _)] at tm
   have ltn:((rs.map (·.2)).take n).length=n:=by rw[Zbs];omega
   exact⟨kvs',_,_,_,rfl,rfl,by omega,tm.next ltn⟩
 ·rintro _ _ ⟨kvs,g,a,b,rfl,rfl,ln,td⟩
  simp! [Jct]
  refine⟨_,kvs,rfl,Jz,λ x=>?_,.cons _ _ _⟩
  have:=td x
  rw[Ql,Zaz (by rw[Zi];omega)] at this
  rw[this]
  cases fstK (rs.map (·.2)) x with
  | some i=>rfl
  | none=>simp[has,fV]
theorem Jkm (kvs:List (Key×IV))(k k':Key)(v:IV):valI (putD kvs k v) k'=if k=k' then Za v else valI kvs k':=by
 unfold putD
 have any_iff:∀l:List (Key×IV),(l.any λ kv=>decide (kv.1=k))=(valI l k).isSome:=by
  intro l
  induction l with
  | nil=>rfl
  | cons p r ih =>
   rw[Zch,ih]
   by_cases e:p.1=k
   ·rw[QO e];simp[e]
   ·rw[Q8 e];simp[e]
 split
 ·rename_i ha
  have key:∀l:List (Key×IV),valI (l.map λ kv=>if kv.1=k then(kv.1,v) else kv) k'=if k=k' then(if (valI l k).isSome then Za v else Zc) else valI l k':=by
   intro l
   induction l with
   | nil=>by_cases e:k=k'<;>simp[valI]
   | cons p r ih =>
    rw[Z4]
    by_cases e:p.1=k
    ·rw[if_pos e]
     by_cases e2:k=k'
     ·rw[QO (by rw[<- e2];exact e),if_pos e2,QO e];rfl
     ·rw[Q8 (by rw[e];exact e2),ih,if_neg e2,if_neg e2,Q8 (by rw[e];exact e2)]
    ·rw[if_neg e]
     by_cases e2:p.1=k'
     ·have:¬k=k':=λ z=>e (e2.trans z.symm)
      rw[QO e2,if_neg this,QO e2]
     ·rw[Q8 e2,ih,Q8 e,Q8 e2]
  rw[key,<-any_iff,ha]
  simp
 ·rename_i ha
  have hn:valI kvs k=Zc:=by
   have:=any_iff kvs
   cases q:valI kvs k with
   | none=>rfl
   | some z=>rw[q] at this;exact absurd this ha
  have key:∀l:List (Key×IV),valI (l++[(k,v)]) k'=match valI l k' with
    | some w=>Za w
    | none=>if k=k' then Za v else Zc:=by
   intro l
   induction l with
   | nil =>
    by_cases e:k=k'
    ·rw[Zag,QO e,if_pos e];rfl
    ·rw[Zag,Q8 e,if_neg e];rfl
   | cons p r ih =>
    by_cases e:p.1=k'
    ·rw[ZU,QO e,QO e]
    ·rw[ZU,Q8 e,Q8 e,ih]
  rw[key]
  by_cases e:k=k'
  ·subst e;rw[hn,if_pos rfl]
  ·rw[if_neg e,if_neg e];cases valI kvs k'<;>rfl
theorem Jte (hi:h[i]?=Za (.dct kvs)):WR (cInD (.int x) (.ref i) h) Q=Q (.bl (valI kvs (.inl x)).isSome) h:=by
 unfold cInD
 simp only[hi,keyI]
 rfl
theorem Jxa (hi:h[i]?=Za (.dct kvs))(e:valI kvs (.inl x)=Za v):WR (QI (.ref i) (.int x) h) Q=Q v h:=by
 unfold QI
 simp only[hi,keyI,e]
 rfl
theorem Jtk (o i:E1)(v:IV):WS (gSbD o i v σ h) N R=WR (o σ h) λ ov h1=>WR (i σ h1) λ iv h2=>WS (Y3 ov iv v σ h2) N R:=by
 unfold gSbD
 rw[Q2]
 congr 1
 funext ov h1
 rw[Q2]
theorem Jpm (hi:h[i]?=Za (.dct kvs))(hl:kvs.length<sizeLine):WS (Y3 (.ref i) (.int x) v σ h) N R=N σ (h.set i (.dct (putD kvs (.inl x) v))):=by
 unfold Y3
 simp only[hi,keyI,hl,if_true]
 rfl
end
section
seal L4.run
theorem Yj {α:Type}{x y z u v w:α}{xs:List α}:atI (x::y::z::u::v::w::xs) 5=Za w:=JE (n:=5) rfl
def dH (a:Hd):ZcM:=.tuple [.str a.1,.int a.2.1,.int a.2.2]
def dR (r:RH):ZcM:=.tuple [.str r.1.name,.int r.1.gap,.int r.1.len,.int r.1.due,.int r.1.late,.list (r.2.map dH)]
theorem Jr9 {x:Str}(q:IsNm x):Zad (.str x)=Zg:=by
 simp only[Zad]
 unfold PyData.strOk
 rw[<- Array.all_toList,Zbf]
 intro c hc
 have:=q.2.2 c hc
 simp only[decide_eq_true_eq]
 omega
theorem J00 {hs:List Hd}(q:∀a∈hs,IsNm a.1):ZP (hs.map dH)=Zg:=by
 induction hs with
 | nil=>rfl
 | cons a hs ih =>
  have e:Zad (dH a)=Zg:=by
   have:=Jr9 (q a (Z7 ..))
   simp only[dH,Zad,ZP] at this ⊢
   rw[this]
   rfl
  rw[Z4,ZP,e,ih λ b hb=>q b (Zp _ hb)]
  rfl
theorem J01 {rs:List RH}(q:∀r∈rs,IsNm r.1.name/\∀a∈r.2,IsNm a.1):ZP (rs.map dR)=Zg:=by
 induction rs with
 | nil=>rfl
 | cons r rs ih =>
  have e:Zad (dR r)=Zg:=by
   have h1:=Jr9 (q r (Z7 ..)).1
   have h2:=J00 (q r (Z7 ..)).2
   simp only[dR,Zad,ZP] at h1 ⊢
   rw[h1,h2]
   rfl
  rw[Z4,ZP,e,ih λ b hb=>q b (Zp _ hb)]
  rfl
theorem d_hs' {h:IH}{q n:Nat}{hs:List Hd}(e:h[q]?=Za (.lst (hs.map tupH))):toD h (n+3) (.ref q)=Za (.list (hs.map dH)):=by
 have:∀hs:List Hd,(hs.map tupH).mapM (toD h (n+2))=Za (hs.map dH):=by
  intro hs
  induction hs with
  | nil=>rfl
  | cons a r ih=>rw[Z4,ZbF,ih];rfl
 rw[Xv e,this]
 rfl
theorem J2y {h:IH}{lo:Nat}{ys:List IV}{rs:List RH}(w:RowT h lo ys rs):ys.mapM (toD h 5)=Za (rs.map dR):=by
 obtain⟨wl,at_⟩:=w
 induction ys generalizing rs with
 | nil=>cases rs with|nil=>rfl|cons _ _=>simp at wl
 | cons y ys ih =>
  cases rs with
  | nil=>simp at wl
  | cons r rs =>
   obtain⟨q,e,_,g⟩:=at_ 0 y r rfl rfl
   have ed:toD h 5 y=Za (dR r):=by
    rw[e]
    show((IV.str r.1.name::tp5 r q).mapM (toD h 4)).map Zdd=Za (dR r)
    simp only[ZbF,List.mapM_nil,d_hs' (n:=1) g]
    rfl
   rw[ZbF,ed,ih (rs:=rs) (by simpa using wl) λ i y' r' a b=>at_ (i+1) y' r' a b]
   rfl
structure Cm where
 at_:Nat
 come:Int
 late:Int
 len:Int
abbrev tupC (c:Cm):IV:=.tup [.int c.at_,.int c.come,.int c.late,.int c.len]
structure COk (rs:List RH)(c:Cm):Prop where
 at_:c.at_<rs.length
 come:0<=c.come
 l0:0<=c.late
 l1:c.late<=(rs[c.at_]).1.late
 n1:1<=c.len
 n2:c.len<=(rs[c.at_]).1.len
structure Legal (rs:List RH)(cs:List Cm):Prop where
 ok:∀c∈cs,COk rs c
 far:∀(i j:Nat)(a b:Cm),i<j->cs[i]?=Za a->cs[j]?=Za b->a.at_=b.at_->∀r,rs[a.at_]?=Za r->a.come+r.1.gap<=b.come
structure Lst (kvs:List (Key×IV))(cs:List Cm):Prop where
 no:∀n:Nat,valI kvs (.inl (n:Int))=Zc->∀c∈cs,c.at_≠n
 yes:∀(n:Nat) v,valI kvs (.inl (n:Int))=Za v->∃x,v=.int x/\0<=x/\∀c∈cs,c.at_=n->c.come<=x
def gOf (v:IV):IV:=match v with
 | .tup (_::g::_)=>g
 | _=>.non
theorem RowT.mapG {h:IH}{lo:Nat}{ys:List IV}{rs:List RH}(w:RowT h lo ys rs){F:IV->IV}{g:RH->IV}(hf:∀r q,F (tp6 r q)=g r):ys.map F=rs.map g:=by
 have wl:=w.len
 refine Zbg (by simp[wl]) λ i h1 h2=>?_
 rw[Zi] at h1 h2
 rw[ZJ,ZJ]
 obtain⟨q,e,_,_⟩:=w.at_ i _ _ (Zb h1) (Zb h2)
 rw[e]
 exact hf _ q
structure RI (h h':IH)(cs:List Cm)(kvs:List (Key×IV)):Prop where
 r:h'[h.length]?=Za (.lst (cs.map tupC))
 d:h'[h.length+1]?=Za (.dct kvs)
 kp:Kp h h'
theorem RI.ex {h h1 h2:IH}{cs:List Cm}{kvs:List (Key×IV)}(R:RI h h1 cs kvs)(x:Ex h1 h2):RI h h2 cs kvs:=⟨x.get R.r,x.get R.d,R.kp.trans x.kp⟩
theorem RI.ex0 {h h1:IH}{cs:List Cm}{kvs:List (Key×IV)}(R:RI h h1 cs kvs):Ex h h1:=Jxv R.kp
section
variable {k:Nat}{h:IH}
theorem Jnn {S j lo:Nat}{ys:List IV}{rs:List RH}(hS:h[S]?=Za (.lst ys))(w:RowT h lo ys rs)(q:∀r∈rs,IsNm r.1.name/\∀a∈r.2,IsNm a.1)(hj:h[j]?=Za (.lst [])):cEq (.ref S) (.ref j) h=.ok (.bl rs.isEmpty) h:=by
 have e1:toD h 6 (.ref S)=Za (.list (rs.map dR)):=by rw[Xv hS,J2y w];rfl
 have e2:toD h 6 (.ref j)=Za (.list []):=by rw[Xv hj];rfl
 have e3:Qv (.ref S) (.ref j) h=Za rs.isEmpty:=by
  unfold Qv
  rw[e1,e2]
  dsimp only
  rw[if_pos ⟨by rw[Zad];exact J01 q,by rw[Zad,ZP]⟩,Zbv]
  cases rs with
  | nil=>rw[Za6,Zbr];rfl
  | cons a as=>rw[Z4,Zbr];rfl;all_goals intros;simp_all
 unfold cEq
 have e4:Vr (.ref S) (.ref j)=Zc:=rfl
 rw[e4]
 dsimp only
 rw[e3]
theorem Jzq {i:Nat}{ms:List Int}{Q:IV->IH->Prop}(hi:h[i]?=Za (.lst (ms.map .int)))(hm:ms≠[]):WR (XB (.ref i) h) Q=Q (.int (JS (λ i=>ms.getD i 0) ms.length)) h:=by
 unfold XB
 simp only[hi,V8,hm,if_false]
 rfl
def RwI (h:IH)(C S:Nat)(T:Int)(rs:List RH)(n:Nat)(σ:ISt)(h':IH):Prop:=∃cs kvs a5 a6 a7 a8 a9 a10 a11 a12 a13 a14 a15,RI h h' cs kvs/\σ=[Za (.ref C),Za (.ref S),Za (.ref h.length),Za (.ref (h.length+1)),Za (.int (3*T)),a5,a6,a7,a8,a9,a10,a11,a12,a13,a14,a15]/\cs.length=n/\kvs.length<=n/\Legal rs cs/\Lst kvs cs
theorem Juy {k:Nat}{h h1:IH}{S C n:Nat}{ys:List IV}{rs:List RH}{c unit T y:Int}{cs:List Cm}{kvs:List (Key×IV)}{a5 a6 a7 a8 a9 a10 a11 a12 a13 a14 a15:Option IV}{P:IV->IH->Prop}(hS:h[S]?=Za (.lst ys)){lo:Nat}(w:RowT h lo ys rs)(D:Dr c unit rs)(pos:0<rs.length)(hn:n<=64)(top:∀r∈rs,r.1.gap<=T)
  (R:RI h h1 cs kvs)(lc:cs.length=n)(lk:kvs.length<=n)(L:Legal rs cs)(Z:Lst kvs cs) :
  WS (Jgf (k+1) [Za (.ref C),Za (.ref S),Za (.ref h.length),Za (.ref (h.length+1)),Za (.int (3*T)),Za (.int y),a6,a7,a8,a9,a10,a11,a12,a13,a14,a15] h1) (RwI h C S T rs (n+1)) P:=by
 have hb:=J2
 have wl:=w.len
 have sl:=JC hS
 refine xseq (xset (xb (Je (arg2 rfl rfl) (WR.mono (Jie (k:=k) y 6 (by decide)) ?_))))
 rintro _ h2 ⟨X,xs,rfl,_,gX,lx,hx,e2⟩
 have R:=R.ex e2
 match xs,lx,gX,hx with
 | [y0,y1,y2,y3,y4,y5],_,gX,hx =>
 clear hx
 have gX:h2[X]?=Za (.lst [.int y0,.int y1,.int y2,.int y3,.int y4,.int y5]):=gX
 have pl':(0:Int)<(ys.length:Int):=by omega
 obtain⟨m,em⟩:∃m:Nat,y0%(ys.length:Int)=m:=⟨(y0%(ys.length:Int)).toNat,by have:=ZH y0 (b:=(ys.length:Int)) (by omega);omega⟩
 have hm':m<rs.length:=by have:=ZD y0 pl';omega
 have er:=Zb hm'
 have f:=D.f _ (Z3 hm')
 have tg:=top _ (Z3 hm')
 generalize hrr:rs[m]=r at er f tg
 obtain⟨q,ey,_⟩:=w.get er
 have ay:atI ys (m:Int)=Za (tp6 r q):=JE ey
 have gS2:=R.kp _ _ hS
 have f1:=f.g1
 have f2:=f.l1
 have f3:=f.t1
 have f4:=f.t2
 have u1:=D.u1
 have g0:0<r.1.gap:=by omega
 have v1:=ZH y1 (b:=r.1.late+1) (by omega)
 have v2:=ZD y1 (b:=r.1.late+1) (by omega)
 have v3:=ZH y3 (b:=r.1.gap) (by omega)
 have v4:=ZD y3 g0
 have v5:=ZH y3 (b:=1+r.1.gap) (by omega)
 have v6:=ZH y5 (b:=r.1.len) (by omega)
 have v7:=ZD y5 (b:=r.1.len) (by omega)
 obtain⟨wt,wt1,ew⟩:=pk (n:=3) (y:=y2) [r.1.late,0,y1%(r.1.late+1)] rfl (by decide)
 obtain⟨sh,sh1,es⟩:=pk (n:=3) (y:=y4) [0,y3%r.1.gap,0-y3%r.1.gap] rfl (by decide)
 obtain⟨mo,mo1,eo⟩:=pk (n:=2) (y:=y4) [0,y3%(1+r.1.gap)] rfl (by decide)
 obtain⟨ll,ll1,el⟩:=pk (n:=3) (y:=y4/6) [r.1.len,r.1.len,1+y5%r.1.len] rfl (by decide)
 simp only[Z6,ZT,or_false] at wt1 sh1 mo1 ll1
 have wt1:0<=wt/\wt<=r.1.late:=by omega
 have sh1:0-r.1.gap<sh/\sh<r.1.gap:=by omega
 have mo1:0<=mo:=by omega
 have ll1:1<=ll/\ll<=r.1.len:=by omega
 clear v1 v2 v3 v4 v5 v6 v7
 refine xseq (xset (Je (okc (modE (ixlE rfl rfl gX Qc) (lenE rfl gS2) pl') (congrArg IV.int em)) (xseq ((Vb ..).mpr (Je (ixlE rfl rfl gS2 ay) (xnx rfl (xseq (xset (Je (pkE (arg3 rfl rfl (modE (ixlE rfl rfl gX JU) (addE rfl rfl) (by omega))) rfl (modE (ixlE rfl rfl (grow gX) Qj) rfl (by decide)) ew) ?_)))))))))
 refine xseq (xset (Je (addE (subE rfl rfl) (pkE (arg3 rfl (modE (ixlE rfl rfl (grow gX) Qf) rfl g0) (subE rfl (modE (ixlE rfl rfl (grow gX) Qf) rfl g0))) rfl (modE (ixlE rfl rfl (grow (grow gX)) Vh) rfl (by decide)) es)) ?_))
 have x5:Ex h2 (h2++[IX.lst [IV.int r.1.late,IV.int 0,IV.int (y1%(r.1.late+1))]]++[IX.lst [IV.int 0,IV.int (y3%r.1.gap),IV.int (0-y3%r.1.gap)]]):=(Ex.one _ _).trans (.one _ _)
 generalize h2++[IX.lst [IV.int r.1.late,IV.int 0,IV.int (y1%(r.1.late+1))]]++[IX.lst [IV.int 0,IV.int (y3%r.1.gap),IV.int (0-y3%r.1.gap)]]=h5 at x5 ⊢
 have R5:=R.ex x5
 have gX5:=x5.get gX
 have last:∀(h3:IH)(come:Int),Ex h2 h3->0<=come->(∀c∈cs,c.at_=m->c.come+r.1.gap<=come) ->
   WS (Jg (sAsg (Ja 15) (gSbD (Ja 3) (Ja 7))) (JD (Jo (pg (k+1)) "append" 1 (Ja 2) (Jb (J8 (Jb (Ja 7) (Jb (Ja 15) (Jb (Ja 14) (Jb (Jc Jf (Jw (Jb (Ja 10) (Jb (Ja 10) (Jb (Jc Jl (eC (.int 1)) (Jc Ju (Jc Jf (Ja 6) (eC (.int 5))) (Ja 10))) Jd)))) (Jc Ju (Jc JI (Jc Jf (Ja 6) (eC (.int 4))) (eC (.int 6))) (eC (.int 3)))) Jd))))) Jd)))
    [Za (.ref C),Za (.ref S),Za (.ref h.length),Za (.ref (h.length+1)),Za (.int (3*T)),Za (.int y),Za (.ref X),Za (.int (m:Int)),Za (.str r.1.name),Za (.int r.1.gap),Za (.int r.1.len),Za (.int r.1.due),Za (.int r.1.late),Za (.ref q),Za (.int wt),Za (.int come)] h3)
    (RwI h C S T rs (n+1)) P:=by
   intro h3 come x3 c0 cf
   have R3:=R.ex x3
   have ld:h.length+1<h3.length:=JC R3.d
   refine xseq ((Vb ..).mpr (Je rfl ?_))
   rw[Jtk]
   refine Je rfl (Je rfl ?_)
   rw[Jpm R3.d (show kvs.length<sizeLine by omega)]
   generalize hh4:h3.set (h.length+1) (.dct (putD kvs (.inl (m:Int)) (.int come)))=h4
   have kd:KpB (h.length+1) h3 h4:=λ j o hj z=>by rw[<- hh4,ZI (ZQ hj)];exact z
   have gd4:h4[h.length+1]?=Za (.dct (putD kvs (.inl (m:Int)) (.int come))):=by rw[<- hh4,ZL ld]
   have gr4:=kd _ _ (by omega) R3.r
   have gX4:h4[X]?=Za (.lst [.int y0,.int y1,.int y2,.int y3,.int y4,.int y5]):=by
    refine kd _ _ (λ z=>?_) (x3.get gX)
    have:=x3.get gX
    rw[z,R3.d] at this
    cases this
   refine Qs (QP rfl gr4 V6 (Je (arg1 (tupE (arg4 rfl rfl rfl (pkE (arg3 rfl rfl (addE rfl (modE (ixlE rfl rfl gX4 Yj) rfl (by omega)))) rfl (modE (Qk (ixlE rfl rfl (grow gX4) Vh) rfl (by decide) (by decide)) rfl (by decide)) el)) rfl)) (xapp (grow gr4) (by rw[Zi];omega) ?_)))
   refine⟨cs++[⟨m,come,wt,ll⟩],putD kvs (.inl (m:Int)) (.int come),_,_,_,_,_,_,_,_,_,_,_,⟨?_,?_,?_⟩,rfl,by simp[lc],?_,⟨?_,?_⟩,⟨?_,?_⟩⟩
   ·rw[ZL (by rw[Zt];have:=JC gr4;omega)]
    simp
   ·rw[ZI (by omega)]
    exact grow gd4
   ·intro j o z
    have lj:=JC z
    rw[ZI (by omega)]
    exact grow (kd _ _ (by omega) (R3.kp _ _ z))
   ·unfold putD
    split
    ·simp;omega
    ·simp;omega
   ·intro c' hc'
    rw[ZM,Zy] at hc'
    rcases hc' with hc'|rfl
    ·exact L.ok c' hc'
    ·exact⟨hm',c0,wt1.1,by show wt<=(rs[m]).1.late;rw[hrr];exact wt1.2,ll1.1,by show ll<=(rs[m]).1.len;rw[hrr];exact ll1.2⟩
   ·intro i j a b hij ha hb' eab r' er'
    by_cases hj:j<cs.length
    ·rw[ZE hj] at hb'
     rw[ZE (by omega)] at ha
     exact L.far i j a b hij ha hb' eab r' er'
    ·have lj:=(Zr.mp hb').1
     rw[Zt,Zac] at lj
     obtain rfl:j=cs.length:=by omega
     rw[Z9 (Zo _),Zde] at hb'
     cases hb'
     rw[ZE (by omega)] at ha
     have:r'=r:=by
      rw[eab] at er'
      have er':rs[m]?=Za r':=er'
      rw[er] at er'
      cases er'
      rfl
     rw[this]
     exact cf a (ZbV ha) eab
   ·intro n' e c' hc'
    rw[Jkm] at e
    split at e
    ·cases e
    ·rename_i hne
     rw[ZM,Zy] at hc'
     rcases hc' with hc'|rfl
     ·exact Z.no n' e c' hc'
     ·exact λ z=>hne (by rw[show m=n' from z])
   ·intro n' v e
    rw[Jkm] at e
    split at e
    ·rename_i heq
     cases e
     have en:(m:Int)=n':=Sum.inl.inj heq
     have en:m=n':=by omega
     refine⟨come,rfl,c0,λ c' hc' ec=>?_⟩
     rw[ZM,Zy] at hc'
     rcases hc' with hc'|rfl
     ·have:=cf c' hc' (by rw[ec,en])
      omega
     ·exact ZaB _
    ·rename_i hne
     obtain⟨x,e1,e2,e3⟩:=Z.yes n' v e
     refine⟨x,e1,e2,λ c' hc' ec=>?_⟩
     rw[ZM,Zy] at hc'
     rcases hc' with hc'|rfl
     ·exact e3 c' hc' ec
     ·exact absurd (by rw[show m=n' from ec]) hne
 cases ev:valI kvs (.inl (m:Int)) with
 | none =>
  have eI:cInD (.int (m:Int)) (.ref (h.length+1)) h5=.ok (.bl Zj) h5:=Js (by rw[Jte R5.d,ev];exact⟨rfl,rfl⟩)
  exact xseq (xiff (tofE ((binE rfl rfl).trans eI)) (xnil (last h5 (3*T-wt+sh) x5 (by omega) λ c' hc' z=>absurd z (Z.no m ev c' hc'))))
 | some v =>
  obtain⟨x,rfl,x0,xc⟩:=Z.yes m v ev
  have eI:cInD (.int (m:Int)) (.ref (h.length+1)) h5=.ok (.bl Zg) h5:=Js (by rw[Jte R5.d,ev];exact⟨rfl,rfl⟩)
  have eX:QI (.ref (h.length+1)) (.int (m:Int)) h5=.ok (.int x) h5:=Js (by rw[Jxa R5.d ev];exact⟨rfl,rfl⟩)
  refine xseq (xift (tofE ((binE rfl rfl).trans eI)) (xset (Je (addE (addE ((binE rfl rfl).trans eX) rfl) (pkE (arg2 rfl (modE (ixlE rfl rfl gX5 Qf) (addE rfl rfl) (by omega))) rfl (modE (ixlE rfl rfl (grow gX5) Vh) rfl (by decide)) eo)) ?_)))
  exact last _ (x+r.1.gap+mo) (x5.trans (.one _ _)) (by omega) λ c' hc' z=>by have:=xc c' hc' z;omega
theorem J1s {S C lo:Nat}{cells:List Int}{ys:List IV}{rs:List RH}{c unit:Int}(hS:h[S]?=Za (.lst ys))(w:RowT h lo ys rs)(D:Dr c unit rs)(hr:rs.length<=12)(sm:rs.length<=7∨∀r∈rs,r.1.gap<3*unit)(hC:h[C]?=Za (.lst (cells.map .int)))(hc:cells.length<=64) :
  WR (Jha (k+2) [.ref C,.ref S] h) λ v h'=>∃R cs,v=.ref R/\h.length<=R/\h'[R]?=Za (.lst (cs.map tupC))/\Legal rs cs/\cs.length<=cells.length/\Ex h h':=by
 have hb:=J2
 have wl:=w.len
 have G:=D.gd hr sm
 have nmq:∀r∈rs,IsNm r.1.name/\∀a∈r.2,IsNm a.1:=λ r hr=>⟨(G.f r hr).nm,λ a ha=>((G.f r hr).ok.each a ha).1⟩
 have x1:Ex h (h++[IX.lst []]++[IX.dct []]++[IX.lst []]):=(Ex.one _ _).trans ((Ex.one _ _).trans (.one _ _))
 rw[Jpy]
 refine xfin (xseq (xset (Je (lstE rfl rfl) (xseq (xset (Je rfl (xseq ?_)))))))
 have e0:=Jnn (x1.get hS) (w.kp x1.kp) nmq Jk
 cases rs with
 | nil=>exact xift (tofE ((binE rfl (lstE rfl rfl)).trans e0)) (xret (Je rfl ⟨_,[],rfl,Zo _,grow (grow Jk),⟨by simp,λ i j a b _ e=>by simp at e⟩,by simp,x1⟩))
 | cons r0 rs0 =>
 have pos:0<(r0::rs0).length:=by simp
 refine xiff (tofE ((binE rfl (lstE rfl rfl)).trans e0)) (xnil (xseq (xset ?_)))
 generalize r0::rs0=rs at *
 have gm:=w.mapG (F:=gOf) (g:=λ r=>IV.int r.1.gap) λ r q=>rfl
 have x1S:=x1.get hS
 refine xb (Je rfl (xb (xb (xb ?_))))
 refine WR.mono (Qh (h:=h++[IX.lst []]++[IX.dct []]++[IX.lst []]) (xs:=ys) (chk:=λ h'=>h'[S]?=Za (.lst ys)) (f:=gOf) ?_ (by omega) (λ h2 q=>q _ _ x1S) ?_) ?_
 ·rw[JT]
  exact Je rfl ((JK _).mpr ⟨_,x1S,rfl,rfl,rfl⟩)
 ·intro v hv h2 q
  obtain⟨n,hn,rfl⟩:=Zax.mp hv
  obtain⟨q,e,_,_⟩:=w.at_ n _ _ (Zb hn) (Zb (show n<rs.length by omega))
  rw[e]
  exact Je (ixtE rfl rfl JU) ⟨rfl,.refl _⟩
 rintro _ _ ⟨rfl,g,rfl⟩
 have em:rs.map (λ r=>IV.int r.1.gap)=(rs.map λ r=>r.1.gap).map IV.int:=by simp
 rw[gm,em]
 have hm:(rs.map λ r=>r.1.gap)≠[]:=λ e=>by
  rw[List.map_eq_nil_iff] at e
  rw[e] at pos
  simp at pos
 have x2:Ex (h++[IX.lst []]++[IX.dct []]++[IX.lst []]) (h++[IX.lst []]++[IX.dct []]++[IX.lst []]++IX.lst ((rs.map λ r=>r.1.gap).map IV.int)::g):=.cons _ _ _
 refine xb (Je rfl (Je rfl ?_))
 rw[Xy,Jzq Jz hm]
 have top:∀r∈rs,r.1.gap<=JS (λ i=>(rs.map λ r=>r.1.gap).getD i 0) (rs.map λ r=>r.1.gap).length:=λ r hr=>by
  obtain⟨j,hj,rfl⟩:=Zax.mp hr
  have:=Jwy (λ i=>(rs.map λ r=>r.1.gap).getD i 0) (rs.map λ r=>r.1.gap).length j (by simpa using hj)
  have e:(rs.map λ r=>r.1.gap).getD j 0=(rs[j]).1.gap:=by rw[Zk,Zv,Zb hj];rfl
  rw[<- e]
  exact this
 generalize JS (λ i=>(rs.map λ r=>r.1.gap).getD i 0) (rs.map λ r=>r.1.gap).length=T at top
 have gR:(h++[IX.lst []]++[IX.dct []]++[IX.lst []]++IX.lst ((rs.map λ r=>r.1.gap).map IV.int)::g)[h.length]?=Za (.lst []):=x2.get (grow (grow Jk))
 have gD:(h++[IX.lst []]++[IX.dct []]++[IX.lst []]++IX.lst ((rs.map λ r=>r.1.gap).map IV.int)::g)[(h++[IX.lst []]).length]?=Za (.dct []):=x2.get (grow Jk)
 have lD:(h++[IX.lst []]).length=h.length+1:=by simp
 rw[lD] at gD ⊢
 have k2:Kp h (h++[IX.lst []]++[IX.dct []]++[IX.lst []]++IX.lst ((rs.map λ r=>r.1.gap).map IV.int)::g):=(x1.trans x2).kp
 generalize h++[IX.lst []]++[IX.dct []]++[IX.lst []]++IX.lst ((rs.map λ r=>r.1.gap).map IV.int)::g=hA at gR gD k2 ⊢
 refine xmul (.inl (by decide)) (xseq (xfor ?_))
 rw[JT]
 refine Je rfl ((JK _).mpr ⟨_,k2 _ _ hC,?_⟩)
 refine Qn (RwI h C S T rs)
  (λ n σ h' ⟨_,_,_,_,_,_,_,_,_,_,_,_,_,R,_⟩=>R.kp _ _ hC) ?_ ?_ ⟨[],[],Zc,Zc,Zc,Zc,Zc,Zc,Zc,Zc,Zc,Zc,Zc,⟨gR,gD,k2⟩,rfl,rfl,Zo _,⟨by simp,λ i j a b _ e=>by simp at e⟩,⟨by simp,λ n v e=>by cases e⟩⟩
 ·rintro n hn _ h1 ⟨cs,kvs,a5,a6,a7,a8,a9,a10,a11,a12,a13,a14,a15,R,rfl,lc,lk,L,Z⟩
  rw[Zi] at hn
  rw[ZJ]
  exact xnx rfl (Juy (a5:=a5) hS w D pos (by omega) top R lc lk L Z)
 ·rintro _ h1 ⟨cs,kvs,a5,a6,a7,a8,a9,a10,a11,a12,a13,a14,a15,R,rfl,lc,lk,L,Z⟩
  rw[Zi] at lc
  exact xret (Je rfl ⟨_,cs,rfl,Zo _,R.r,L,by omega,R.ex0⟩)
end
end
section
variable {k:Nat}{h:IH}
end
def actv (d:Int)(a:Hd):Bool:=decide (a.2.1<d)&&decide (d<a.2.2)
def act (hs:List Hd)(d:Int):List Str:=(hs.filter (actv d)).map (·.1)
def avV (d:Int)(v:IV):Bool:=match v with
 | .tup [.str _,.int s,.int e]=>decide (s<d)&&decide (d<e)
 | _=>Zj
def frs (v:IV):IV:=match v with
 | .tup (x::_)=>x
 | _=>.non
theorem Jmw (d:Int):∀hs:List Hd,((hs.map tupH).filter (avV d)).map frs=(act hs d).map IV.str
 | []=>rfl
 | a::hs=>by
  have ih:=Jmw d hs
  unfold act at *
  rw[Z4]
  by_cases q:actv d a=Zg
  ·have q':avV d (tupH a)=Zg:=q
   rw[ZdD q',ZdD q,Z4,Z4,Z4,ih]
   rfl
  ·have q':¬avV d (tupH a)=Zg:=q
   rw[ZdE q',ZdE q,ih]
theorem Jqt (hs:List Hd)(d:Int):(act hs d).length<=hs.length:=by
 unfold act
 rw[Zi]
 exact Zb0 ..
theorem Jxd (h:x∈act hs d):∃a∈hs,a.1=x:=by
 unfold act at h
 obtain⟨a,ha,rfl⟩:=ZC.mp h
 exact⟨a,(Zbn.mp ha).1,rfl⟩
theorem Jq5 (f:Nat->Int):∀(n j:Nat),j<n->JY f n<=f j
 | 0,j,h=>by omega
 | 1,j,h=>by
  have:j=0:=by omega
  subst this
  exact ZaB _
 | n+2,j,h=>by
  rw[Jfx f (by omega:0<n+1)]
  by_cases e:j=n+1
  ·subst e
   split<;>omega
  ·have:=Jq5 f (n+1) j (by omega)
   split<;>omega
theorem Jq6 (f:Nat->Int):∀(n:Nat),0<n->∃j,j<n/\JY f n=f j
 | 0,h=>by omega
 | 1,_=>⟨0,by omega,rfl⟩
 | n+2,_=>by
  rw[Jfx f (by omega:0<n+1)]
  obtain⟨j,hj,e⟩:=Jq6 f (n+1) (by omega)
  split
  ·exact⟨n+1,by omega,rfl⟩
  ·exact⟨j,by omega,e⟩
def fZ (hss:List (List Hd))(x:Str):Int:=match fstK hss x with
 | some j=>(j:Int)
 | none=>0
def rkNs (hss:List (List Hd))(zs:List Str)(a:Nat):List Int:=(a:Int)::zs.map (fZ hss)
def rk (hss:List (List Hd))(zs:List Str)(a:Nat):Int:=JY (λ i=>(rkNs hss zs a).getD i 0) (rkNs hss zs a).length
def fstV (hss:List (List Hd))(v:IV):IV:=match v with
 | .str t=>.int (fZ hss t)
 | _=>.non
noncomputable def stT (v:IV):ISt:=match v with
 | .tup [x,y,z]=>[Za x,Za y,Za z]
 | _=>[Zc,Zc,Zc]
section
variable {k:Nat}{h:IH}
theorem Jn3 {ns:List Int}(hi:h[i]?=Za (.lst (ns.map .int)))(hn:ns≠[]):WR (VC (.ref i) h) Q=Q (.int (JY (λ i=>ns.getD i 0) ns.length)) h:=by
 unfold VC
 simp only[hi,V8]
 rw[if_neg hn]
 rfl
theorem Jtf (hi:h[i]?=Za (.dct kvs))(e:valI kvs (.inr x)=Za v):WR (QI (.ref i) (.str x) h) Q=Q v h:=by
 unfold QI
 simp only[hi,keyI,e]
 rfl
theorem Jms {gap len due late d:Int}{hs:List Hd}(hw:h[w]?=Za (.ins "Work" (wfs name gap len due late (hs.map tupH))))(l6:hs.length<=6) :
  WR (Jaw (k+2) [.ref w,.int d] h) λ v h'=>∃i,v=.ref i/\h.length<=i/\h'[i]?=Za (.lst ((act hs d).map .str))/\Ex h h':=by
 have hb:=J2
 rw[Jiu]
 simp! [Jcz]
 refine WR.mono (YH (h:=h++[IX.lst (hs.map tupH)]) (xs:=hs.map tupH) (chk:=λ h'=>h'[h.length]?=Za (.lst (hs.map tupH))) (p:=avV d) (f:=frs) ?_ (by rw[Zi];omega) (λ h2 q=>q _ _ Jk) ?_ ?_) ?_
 ·rw[JT,Qr (i:=w) (h1:=h) rfl hw flh (Jbh _)]
  simp! [Jfq hw,JK,Jk]
 ·intro v hv h2 q
  obtain⟨a,_,rfl⟩:=ZC.mp hv
  simp only[Z4,Za6,Za9,ZaA,ZbI]
  simp! [Jbq,tupH,avV,decide_eq_true_eq,decide_eq_false_iff_not]
  exact⟨λ z=>⟨by simp[z],.refl _⟩,λ z=>⟨by simp[z],.refl _⟩⟩
 ·intro v hv _ h2 q
  obtain⟨a,_,rfl⟩:=ZC.mp hv
  simp! [Jbp,tupH,frs]
  exact .refl _
 ·rintro _ _ ⟨rfl,g,rfl⟩
  rw[Jmw]
  exact⟨_,rfl,by rw[Zt];omega,Jz,(Ex.one _ _).trans (.cons _ _ _)⟩
theorem Jsd {a i t:Nat}{zs:List Str}(gi:h[i]?=Za (.lst (zs.map .str)))(gt:h[t]?=Za (.dct kvs))(tv:∀x,(valI kvs (.inr x)).getD .non=fV (fstK hss x))(hz:∀z∈zs,fstK hss z≠Zc)(la:zs.length<=6) :
  WR (Jjd (k+1) [.int (a:Int),.ref i,.ref t] h) λ v h'=>v=.int (rk hss zs a)/\Ex h h':=by
 have hb:=J2
 rw[Jrp]
 simp! [Ji4,ZB,ZaM]
 refine⟨by omega,?_⟩
 have x3:Ex h (h++[IX.lst [IV.int (a:Int)]]):=.one _ _
 have gA:(h++[IX.lst [IV.int (a:Int)]])[h.length]?=Za (.lst ([(a:Int)].map IV.int)):=Jk
 generalize h.length=A at gA
 generalize h++[IX.lst [IV.int (a:Int)]]=h3 at x3 gA
 refine WR.mono (Qh (h:=h3) (xs:=zs.map IV.str) (chk:=λ h'=>h'[i]?=Za (.lst (zs.map IV.str))) (f:=fstV hss) ?_ (by rw[Zi];omega) (λ h4 q=>q _ _ (x3.get gi)) ?_) ?_
 ·simp! [JK,x3.get gi]
 ·intro v hv h4 q
  obtain⟨x,hx,rfl⟩:=ZC.mp hv
  have e1:=tv x
  have ne:=hz x hx
  cases ef:fstK hss x with
  | none=>exact absurd ef ne
  | some jj =>
   rw[ef] at e1
   have e2:valI kvs (.inr x)=Za (.int (jj:Int)):=by
    cases ev:valI kvs (.inr x) with
    | none=>rw[ev] at e1;cases e1
    | some v=>rw[ev] at e1;rw[show v=.int (jj:Int) from e1]
   simp only[Z4,Za6,Za9,ZaA,ZbI]
   simp! [Jgd]
   rw[Jtf (q _ _ (x3.get gt)) e2]
   exact⟨by simp only[fstV,fZ,ef],.refl _⟩
 ·rintro _ _ ⟨rfl,g,rfl⟩
  have em:(zs.map IV.str).map (fstV hss)=(zs.map (fZ hss)).map IV.int:=by
   rw[Za8,Za8]
   rfl
  rw[em]
  have x4:Ex h3 (h3++IX.lst ((zs.map (fZ hss)).map IV.int)::g):=.cons _ _ _
  simp! [YE,x4.get gA,Jz,Zi,ZB,ZaM]
  refine⟨by omega,?_⟩
  rw[<- Zbp]
  rw[show[(a:Int)]++zs.map (fZ hss)=rkNs hss zs a from rfl,Jn3 (ns:=rkNs hss zs a) Jk (by simp[rkNs])]
  exact⟨rfl,(x3.trans x4).trans (.one _ _)⟩
theorem Jqs {rs:List RH}{a:Nat}(ha:a<rs.length){d:Int}:∀z∈act (rs[a]).2 d,fstK (rs.map (·.2)) z≠Zc:=λ z q=>by
 obtain⟨b,hb',rfl⟩:=Jxd q
 intro e
 unfold fstK at e
 rw[Zdu] at e
 have:=e (rs[a]).2 (ZC.mpr ⟨rs[a],Z3 ha,rfl⟩)
 unfold has at this
 have t2:((rs[a]).2.any λ x=>decide (x.1=b.1))=Zg:=List.any_eq_true.mpr ⟨b,hb',by simp⟩
 rw[t2] at this
 cases this
abbrev ofs (D T:Nat):List (Str×IV):=[("duty",.ref D),("tops",.ref T)]
abbrev ofs1 (D:Nat):List (Str×IV):=[("duty",.ref D)]
theorem op0:putI "duty" a ([]:List (Str×IV))=([("duty",a)]:List (Str×IV)):=by kernel_rfl
theorem op1:putI "tops" b ([("duty",a)]:List (Str×IV))=([("duty",a),("tops",b)]:List (Str×IV)):=by kernel_rfl
theorem ol0 {D T:Nat}:(ofs D T).lookup ("duty":Str)=Za (.ref D):=by kernel_rfl
theorem ol1 {D T:Nat}:(ofs D T).lookup ("tops":Str)=Za (.ref T):=by kernel_rfl
theorem olr {D T:Nat}:(ofs D T).lookup ("rank_of":Str)=Zc:=by kernel_rfl
theorem olh {D T:Nat}:(ofs D T).lookup ("holds":Str)=Zc:=by kernel_rfl
theorem ql0:(ofs1 D).lookup ("duty":Str)=Za (.ref D):=by kernel_rfl
theorem qlr:(ofs1 D).lookup ("rank_of":Str)=Zc:=by kernel_rfl
theorem qlh:(ofs1 D).lookup ("holds":Str)=Zc:=by kernel_rfl
def IsOr (h:IH)(kind:Int)(O:Nat)(rs:List RH):Prop:=∃D,IsDu h D rs/\((kind=1/\h[O]?=Za (.ins "ByDue" (ofs1 D)))∨(kind=2/\h[O]?=Za (.ins "ByComing" (ofs1 D))) ∨
 (kind=0/\∃T kvs,h[O]?=Za (.ins "ByRank" (ofs D T))/\h[T]?=Za (.dct kvs)/\∀x,(valI kvs (.inr x)).getD .non=fV (fstK (rs.map (·.2)) x)))
theorem IsOr.kp (k:Kp h h')(o:IsOr h kind O rs):IsOr h' kind O rs:=by
 obtain⟨D,d,o⟩:=o
 refine⟨D,d.kp k,o.imp (λ ⟨a,b⟩=>⟨a,k _ _ b⟩) (Or.imp (λ ⟨a,b⟩=>⟨a,k _ _ b⟩) λ ⟨a,T,kvs,b,c,d⟩=>⟨a,T,kvs,k _ _ b,k _ _ c,d⟩)⟩
theorem Jf4 (hO:h[O]?=Za (.ins c [])):Ya (k+1) [.ref O,.ref D] h=.ok .non (h.set O (.ins c (ofs1 D))):=by
 refine Js ?_
 rw[Jj2]
 simp! [Jdq,Xf]
 refine⟨_,_,_,rfl,hO,by decide,?_⟩
 rw[op0]
theorem Jzo (hi:h[i]?=Za (.dct kvs)):WR (XA (.ref i) h) Q=Q (.int kvs.length) h:=by
 unfold XA
 simp only[hi]
 rfl
theorem Jlb (d:IsDu h D rs)(hl:rs.length<=12)(no:∀r∈rs,r.2=[]):WR (Yc (k+2) [.ref D] h) λ v h'=>∃i,v=.ref i/\h'[i]?=Za (.dct [])/\Ex h h':=by
 have hb:=J2
 obtain⟨vs,gD,w⟩:=d
 have wl:=w.len
 rw[Jhv]
 simp! [Jcr,Jcs,Jtc]
 rw[Qr (i:=D) (h1:=h++[.dct []]) rfl (grow gD) dls (Jc8 _)]
 simp! [Jhq (grow gD)]
 refine⟨by omega,?_⟩
 refine Qn (λ n σ h'=>∃a b,Ex (h++[.dct []]) h'/\σ=[Za (.ref D),Za (.ref h.length),a,b]) (λ _ _ _ _=>trivial) ?_ ?_ ⟨Zc,Zc,.refl _,rfl⟩
 ·rintro n hn _ h1 ⟨a,b,x1,rfl⟩
  rw[VG]
  rw[Ql] at hn
  have hn':n<rs.length:=by omega
  obtain⟨j,ej,gj⟩:=w.get (Zb hn')
  rw[show(0:Int)+(n:Int)=(n:Int) by omega]
  have av:atI vs (n:Int)=Za (.ref j):=JE ej
  have gD1:=x1.get (grow gD)
  have gj1:=x1.get (grow gj)
  have e0:=no _ (Z3 hn')
  generalize hσ:([Za (.ref D),Za (.ref h.length),Za (.int (n:Int)),b]:ISt)=σ
  have e1:Jo (pg (k+1)) "work" 1 (Ja 0) (Jb (Ja 2) Jd) σ h1=.ok (.ref j) h1:=by
   subst hσ
   refine Js ?_
   rw[Qr (i:=D) (h1:=h1) rfl gD1 dlw (Jbg _)]
   simp! [Jfk gD1 av]
  dsimp! [hσ,Jch]
  rw[Qr (i:=j) (h1:=h1) e1 gj1 flh (Jbh _)]
  simp! [Jfq gj1,e0,Za6,JK,Jk]
  rw[<- hσ]
  simp only[Qd]
  rw[if_pos Jk,YX]
  exact⟨_,_,x1.trans (.one _ _),rfl⟩
 ·rintro _ h1 ⟨a,b,x1,rfl⟩
  simp! [Jct]
  exact⟨x1.get Jk,(Ex.one _ _).trans x1⟩
theorem Jh8 (d:IsDu h D rs)(hl:rs.length<=12)(no:∀r∈rs,r.2=[]):WR (Jao (k+3) [.ref D] h) λ v h'=>v=.non/\Ex h h':=by
 rw[Jhw]
 simp! [Jck]
 refine WR.mono (Jlb (k:=k) d hl no) ?_
 rintro _ h1 ⟨i,rfl,gi,x1⟩
 rw[Jzo gi]
 simp! [ZaM]
 refine⟨λ q=>?_,λ _=>x1⟩
 simp at q
theorem Jtw {kind:Int}(d:IsDu h D rs)(hl:rs.length<=12)(no:∀r∈rs,r.2=[]):WR (Jco (k+4) [.ref h.length,.ref D] (h++[.ins "ByDue" []])) λ v h'=>v=.non/\Ex h h'/\IsOr h' 1 h.length rs:=by
 rw[Jj1]
 simp! [Jdo,Jdp]
 refine WR.mono (Jh8 (k:=k) (d.kp (Ex.one h _).kp) hl no) ?_
 rintro _ _ ⟨rfl,g,rfl⟩
 have gO:(h++[IX.ins "ByDue" []]++g)[h.length]?=Za (.ins "ByDue" []):=grow Jk
 rw[Jf4 (k:=k+2) gO]
 simp! [true_and]
 have e:(h++[IX.ins "ByDue" []]++g).set h.length (.ins "ByDue" (ofs1 D))=h++.ins "ByDue" (ofs1 D)::g:=by
  rw[ZZ,ZU,Zag,VZ]
 rw[e]
 exact⟨.cons _ _ _,D,d.kp (Ex.cons _ _ _).kp,.inl ⟨rfl,Jz⟩⟩
theorem Jm5 (d:IsDu h D rs)(hl:rs.length<=12)(no:∀r∈rs,r.2=[]):WR (Ja4 (k+4) [.ref h.length,.ref D] (h++[.ins "ByComing" []])) λ v h'=>v=.non/\Ex h h'/\IsOr h' 2 h.length rs:=by
 rw[Jgm]
 simp! [Jbm,Jbn]
 refine WR.mono (Jh8 (k:=k) (d.kp (Ex.one h _).kp) hl no) ?_
 rintro _ _ ⟨rfl,g,rfl⟩
 have gO:(h++[IX.ins "ByComing" []]++g)[h.length]?=Za (.ins "ByComing" []):=grow Jk
 rw[Jf4 (k:=k+2) gO]
 simp! [true_and]
 have e:(h++[IX.ins "ByComing" []]++g).set h.length (.ins "ByComing" (ofs1 D))=h++.ins "ByComing" (ofs1 D)::g:=by
  rw[ZZ,ZU,Zag,VZ]
 rw[e]
 exact⟨.cons _ _ _,D,d.kp (Ex.cons _ _ _).kp,.inr (.inl ⟨rfl,Jz⟩)⟩
theorem Jsq (d:IsDu h D rs)(hl:rs.length<=12)(h6:∀r∈rs,r.2.length<=6):WR (Jbs (k+4) [.ref h.length,.ref D] (h++[.ins "ByRank" []])) λ v h'=>v=.non/\Ex h h'/\IsOr h' 0 h.length rs:=by
 rw[Jip]
 simp! [Jcp,Jcq,Jf4 (k:=k+2) (h:=h++[.ins "ByRank" []]) Jk,VH,Xf]
 have x1:Ex h (h++[IX.ins "ByRank" (ofs1 D)]):=.one _ _
 have d1:=d.kp x1.kp
 obtain⟨vs,gD,w⟩:=id d1
 refine WR.mono (Jm3 (k:=k+1) gD w hl h6) ?_
 rintro _ _ ⟨t,kvs,rfl,gt,tv,g,rfl⟩
 refine⟨_,_,_,rfl,grow Jk,by show(1:Nat)<1000;decide,?_⟩
 rw[op1]
 have e:(h++[IX.ins "ByRank" (ofs1 D)]++g).set h.length (.ins "ByRank" (ofs D t))=h++.ins "ByRank" (ofs D t)::g:=by
  rw[ZZ,ZU,Zag,VZ]
 rw[e]
 have kb:KpB h.length (h++[IX.ins "ByRank" (ofs1 D)]++g) (h++IX.ins "ByRank" (ofs D t)::g):=λ j o hj z=>by
  rw[<- e,ZI (ZQ hj)]
  exact z
 have ht:t≠h.length:=λ z=>by
  rw[z] at gt
  have:(h++[IX.ins "ByRank" (ofs1 D)]++g)[h.length]?=Za (.ins "ByRank" (ofs1 D)):=grow Jk
  rw[this] at gt
  cases gt
 exact⟨.cons _ _ _,D,d.kp (Ex.cons _ _ _).kp,.inr (.inr ⟨rfl,t,kvs,Jz,kb _ _ ht gt,tv⟩)⟩
end
section
seal L4.run L4.WS
section
variable {k:Nat}{h:IH}
theorem argC (ea:a σ h=.ok x h1)(eb:b σ h1=.ok xs h2):Jb a b σ h=.ok (x::xs) h2:=by
 show(a σ h).bind (λ x h1=>(b σ h1).bind λ xs h2=>.ok (x::xs) h2)=_
 rw[ea]
 show(b σ h1).bind _=_
 rw[eb]
 rfl
theorem wkE (hD:h[D]?=Za (.ins "Duty" (dfs vs)))(eo:o σ h=.ok (.ref D) h)(ee:e σ h=.ok (.int n) h)(av:atI vs n=Za (.ref j)):Jo (pg (k+1)) "work" 1 o (Jb e Jd) σ h=.ok (.ref j) h:=dotE eo hD dlw (Jbg _) (arg1 ee) (Jfk hD av)
def DW (h1:IH)(x y:IV)(h':IH):Prop:=∀(r:RH)(q:Nat),x=tp6 r q->h1[q]?=Za (.lst (r.2.map tupH))->∃w:Nat,y=IV.ref w/\w≠h1.length/\h'[w]?=Za (wo r)
theorem Jvo {a0 a2:Option IV}(G:Gd unit rs)(gS:h[S]?=Za (.lst ys))(w:RowT h lo ys rs) :
  ∃h',J0 (Jx (Ja 1)) 1 [] (gNm 0) JF (Jai (k+5)) [a0,Za (.ref S),a2] h=.ok (.ref h.length) h'/\∃vs,h'[h.length]?=Za (.lst vs)/\AllH h' vs rs/\Kp h h':=by
 have hb:=J2
 have few:=G.few
 have wl:=w.len
 obtain⟨v,h3,ev,rfl,vs,gv,lv,k3,dv⟩:=(Jvq (it:=Jx (Ja 1)) (e:=Jai (k+5)) (js:=[]) (σ:=[a0,Za (.ref S),a2]) (h0:=h) (h:=h) (xs:=ys) (chk:=λ h'=>h'[S]?=Za (.lst ys)) (DW h)
  (by rw[JT];exact Je rfl ((JK _).mpr ⟨_,gS,rfl,rfl,rfl⟩)) (by omega) (by
   intro x y h2 h3 kb dd r q e g
   obtain⟨w,e1,e2,e3⟩:=dd r q e g
   exact⟨w,e1,e2,kb _ _ e2 e3⟩) (λ h2 q=>q _ _ gS) (by
   intro x hx h2 k2 l2
   obtain⟨n,hn,rfl⟩:=Zax.mp hx
   have hn':n<rs.length:=by omega
   obtain⟨q,ey,_,gq⟩:=w.at_ n _ _ (Zb hn) (Zb hn')
   have f8:=G.f _ (Z3 hn')
   have u1:=G.u1
   rw[ey]
   generalize rs[n]=r at gq f8
   have f1:=f8.g1
   have gq2:=k2 _ _ gq
   have a5:atI (IV.str r.1.name::tp5 r q) 5=Za (.ref q):=Yj
   unfold Jai
   rw[Vx]
   refine Je (argC (ixtE rfl rfl Qc) (argC (ixtE rfl rfl JU) (argC (ixtE rfl rfl Qj) (argC (ixtE rfl rfl Qf) (argC (ixtE rfl rfl Vh) (arg1 (J02 (ixtE rfl rfl a5) gq2))))))) ?_
   generalize hs':r.2.map tupH=hs
   refine WR.mono (Jyi (k:=k) (hs:=hs) f8.nm (by omega) f8.l1 f8.t1 (λ h1=>Jqd f8.d1 f8.d2) λ h1 z=>hs'▸Jl5 (z _ _ (by rw[hs'];exact Jk)) f8.ok) ?_
   rintro _ h3 ⟨rfl,g,rfl⟩
   refine⟨rfl,(Ex.one _ _).trans (.cons _ _ _),λ r' q' e' g'=>⟨_,rfl,by rw[Zt];omega,?_⟩⟩
   have e':tp6 r q=tp6 r' q':=e'
   simp only[tp6,tp5,IV.tup.injEq,Zda,IV.str.injEq,IV.int.injEq,IV.ref.injEq,and_true] at e'
   obtain⟨e1,e2,e3,e4,e5,rfl⟩:=e'
   rw[gq] at g'
   have g':r.2.map tupH=r'.2.map tupH:=by simpa using g'
   rw[<- hs',g']
   unfold wo
   rw[<- e1,<-e2,<-e3,<-e4,<-e5]
   exact Jz)).eq
 refine⟨h3,ev,vs,gv,⟨by omega,λ i v r a b=>?_⟩,k3⟩
 obtain⟨q,ey,gq⟩:=w.get b
 obtain⟨W,e1,_,e3⟩:=dv i _ _ ey a r q rfl gq
 exact⟨W,e1,e3⟩
theorem Juu (gS:h[S]?=Za (.lst ys))(w:RowT h lo ys rs)(G:Gd unit rs)(hk:kind=0∨kind=1∨kind=2)(no:kind≠0->∀r∈rs,r.2=[]) :
  WR (Jd1 (k+6) [.int kind,.ref S] h) λ v h'=>∃O,v=.ref O/\Ex h h'/\IsOr h' kind O rs:=by
 have few:=G.few
 rw[Jlr]
 obtain⟨h3,ev,vs,gv,wA,k3⟩:=Jvo (k:=k) (a0:=Za (.int kind)) (a2:=Zc) G gS w
 refine xfin (xseq (xset ?_))
 rw[Vx]
 refine Je (arg1 ev) (WR.mono (J2z (k:=k+2) gv wA G) ?_)
 rintro _ h4 ⟨rfl,x4,d4⟩
 refine⟨rfl,?_⟩
 have x3:=Jxv k3
 generalize h3.length=DD at d4 ⊢
 rcases hk with rfl|rfl|rfl
 ·refine xseq (xiff rfl (xnil (xseq (xiff rfl (xnil (xret ?_))))))
  rw[Vx]
  refine Je (arg1 rfl) (WR.mono (Jsq (k:=k+1) d4 (by omega) λ r hr=>(G.f r hr).ok.few) ?_)
  rintro _ h5 ⟨rfl,x5,o⟩
  exact⟨rfl,_,rfl,(x3.trans x4).trans x5,o⟩
 ·refine xseq (xift rfl (xret ?_))
  rw[Vx]
  refine Je (arg1 rfl) (WR.mono (Jtw (k:=k+1) (kind:=1) d4 (by omega) (no (by decide))) ?_)
  rintro _ h5 ⟨rfl,x5,o⟩
  exact⟨rfl,_,rfl,(x3.trans x4).trans x5,o⟩
 ·refine xseq (xiff rfl (xnil (xseq (xift rfl (xret ?_)))))
  rw[Vx]
  refine Je (arg1 rfl) (WR.mono (Jm5 (k:=k+1) d4 (by omega) (no (by decide))) ?_)
  rintro _ h5 ⟨rfl,x5,o⟩
  exact⟨rfl,_,rfl,(x3.trans x4).trans x5,o⟩
theorem Jq7 {O D T:Nat}{rs:List RH}{kvs:List (Key×IV)}{c:Cm}{d:Int}(hd:IsDu h D rs)(gO:h[O]?=Za (.ins "ByRank" (ofs D T)))(gT:h[T]?=Za (.dct kvs))(tv:∀x,(valI kvs (.inr x)).getD .non=fV (fstK (rs.map (·.2)) x))(ha:c.at_<rs.length)(l6:∀r∈rs,r.2.length<=6) :
  WR (Jat (k+3) [.ref O,tupC c,.int d] h) λ v h'=>v=.int (rk (rs.map (·.2)) (act (rs[c.at_]).2 d) c.at_)/\Ex h h':=by
 obtain⟨vs,gD,w⟩:=hd
 obtain⟨j,ej,gj⟩:=w.get (Zb ha)
 have av:atI vs (c.at_:Int)=Za (.ref j):=JE ej
 have hz:=Jqs ha (d:=d)
 have l:=l6 _ (Z3 ha)
 generalize rs[c.at_]=r at gj hz l
 rw[Jf1]
 refine xfin (xret (xb (xb ?_)))
 refine Je (ixtE rfl rfl Qc) (xb (xb (xb (Je (arg2 (wkE gD (fldE rfl gO ol0) (ixtE rfl rfl Qc) av) rfl) (WR.mono (Jms (k:=k) gj l) ?_)))))
 rintro _ h1 ⟨i,rfl,li,gi,x1⟩
 have la:=Jqt r.2 d
 refine xb (Je (arg1 (fldE rfl (x1.get gO) ol1)) (Je rfl (Je rfl (WR.mono (Jsd (k:=k+1) gi (x1.get gT) tv hz (by omega)) ?_))))
 rintro _ h2 ⟨rfl,x2⟩
 exact⟨rfl,x1.trans x2⟩
theorem Jk8 {O D T:Nat}{c:Cm}{d:Int}(hd:IsDu h D rs)(gO:h[O]?=Za (.ins "ByRank" (ofs D T)))(ha:c.at_<rs.length)(l6:∀r∈rs,r.2.length<=6) :
  WR (Jbj (k+3) [.ref O,tupC c,.int d] h) λ v h'=>v=.bl (!(act (rs[c.at_]).2 d).isEmpty)/\Ex h h':=by
 obtain⟨vs,gD,w⟩:=hd
 obtain⟨j,ej,gj⟩:=w.get (Zb ha)
 have av:atI vs (c.at_:Int)=Za (.ref j):=JE ej
 have l:=l6 _ (Z3 ha)
 generalize rs[c.at_]=r at gj l
 rw[Jhu]
 obtain⟨_,h1,e1,i,rfl,li,gi,x1⟩:=(Jms (k:=k) (d:=d) gj l).eq
 refine xfin (xret (Je ((binE (lenE (JN (arg2 (wkE gD (fldE rfl gO ol0) (ixtE rfl rfl Qc) av) rfl) e1) gi) rfl).trans rfl) ⟨?_,x1⟩))
 rw[Zi]
 cases act r.2 d<;>simp
theorem dueE {c:Cm}(hd:IsDu h D rs)(ha:c.at_<rs.length):Jjc (k+2) [.ref D,tupC c] h=.ok (.int (c.come+(rs[c.at_]).1.due)) h:=by
 obtain⟨vs,gD,w⟩:=hd
 obtain⟨j,ej,gj⟩:=w.get (Zb ha)
 have av:atI vs (c.at_:Int)=Za (.ref j):=JE ej
 generalize rs[c.at_]=r at gj
 refine Js ?_
 rw[Jro]
 exact xfin (xret (Je (addE (ixtE rfl rfl JU) (fldE (wkE gD rfl (ixtE rfl rfl Qc) av) gj fl3)) ⟨rfl,rfl⟩))
theorem Jtp {c:Cm}(hd:IsDu h D rs)(gO:h[O]?=Za (.ins "ByDue" (ofs1 D)))(ha:c.at_<rs.length):Ja5 (k+3) [.ref O,tupC c,.int d] h=.ok (.int (c.come+(rs[c.at_]).1.due)) h:=Js (by rw[Jgn];exact xfin (xret (Je (JN (arg2 (fldE rfl gO ql0) rfl) (dueE (k:=k) hd ha)) ⟨rfl,rfl⟩)))
theorem Jm2:Jah (k+1) [.ref O,tupC c,.int d] h=.ok (.int c.come) h:=Js (by rw[Jec];exact xfin (xret (Je (ixtE rfl rfl JU) ⟨rfl,rfl⟩)))
theorem Jh6:Jav (k+1) [.ref O,v,w] h=.ok (.bl Zj) h:=Js (by rw[Jiq];exact xfin (xret (Je rfl ⟨rfl,rfl⟩)))
def Vg (kind:Int)(rs:List RH)(c:Cm)(d:Int):Int:=if kind=1 then c.come+(rs.getD c.at_ rd).1.due else if kind=2 then c.come else rk (rs.map (·.2)) (act (rs.getD c.at_ rd).2 d) c.at_
def QS (kind:Int)(rs:List RH)(c:Cm)(d:Int):Bool:=if kind=1 then Zj else if kind=2 then Zj else !(act (rs.getD c.at_ rd).2 d).isEmpty
theorem Xm {rs:List RH}(hn:n<rs.length):rs.getD n rd=rs[n]:=by rw[Zk,Zb hn];rfl
theorem Jpp {kind:Int}{O:Nat}{d:Int}{oe e1 e2:E1}(o:IsOr h kind O rs)(ho:oe σ h=.ok (.ref O) h)(h1:e1 σ h=.ok (tupC c) h)(h2:e2 σ h=.ok (.int d) h)(ha:c.at_<rs.length)(l6:∀r∈rs,r.2.length<=6) :
  WR (Jo (pg (k+3)) "rank_of" 2 oe (Jb e1 (Jb e2 Jd)) σ h) λ v h'=>v=.int (Vg kind rs c d)/\Ex h h':=by
 obtain⟨D,hd,⟨rfl,gO⟩|⟨rfl,gO⟩|⟨rfl,T,kvs,gO,gT,tv⟩⟩:=o
 ·exact Vz ho gO qlr (Jgl _) (Je (arg2 h1 h2) (Je (Jtp hd gO ha) ⟨by rw[Vg,if_pos rfl,Xm ha],.refl _⟩))
 ·exact Vz ho gO qlr (Jea _) (Je (arg2 h1 h2) (Je Jm2 ⟨by rw[Vg,if_neg (by decide),if_pos rfl],.refl _⟩))
 ·refine Vz ho gO olr (Jf0 _) (Je (arg2 h1 h2) (WR.mono (Jq7 (k:=k) hd gO gT tv ha l6) ?_))
  rintro _ h3 ⟨rfl,x3⟩
  exact⟨by rw[Vg,if_neg (by decide),if_neg (by decide),Xm ha],x3⟩
theorem Jmx (o:IsOr h kind O rs)(ho:oe σ h=.ok (.ref O) h)(h1:e1 σ h=.ok (tupC c) h)(h2:e2 σ h=.ok (.int d) h)(ha:c.at_<rs.length)(l6:∀r∈rs,r.2.length<=6) :
  WR (Jo (pg (k+3)) "holds" 2 oe (Jb e1 (Jb e2 Jd)) σ h) λ v h'=>v=.bl (QS kind rs c d)/\Ex h h':=by
 obtain⟨D,hd,⟨rfl,gO⟩|⟨rfl,gO⟩|⟨rfl,T,kvs,gO,gT,tv⟩⟩:=o
 ·exact Vz ho gO qlh (Jim _) (Je (arg2 h1 h2) (Je Jh6 ⟨by rw[QS,if_pos rfl],.refl _⟩))
 ·exact Vz ho gO qlh (Jfy _) (Je (arg2 h1 h2) (Je Jh6 ⟨by rw[QS,if_neg (by decide),if_pos rfl],.refl _⟩))
 ·refine Vz ho gO olh (Jhp _) (Je (arg2 h1 h2) (WR.mono (Jk8 (k:=k) hd gO ha l6) ?_))
  rintro _ h3 ⟨rfl,x3⟩
  exact⟨by rw[QS,if_neg (by decide),if_neg (by decide),Xm ha],x3⟩
end
end
def cd:Cm:=⟨0,0,0,0⟩
def keyN (kind:Int)(rs:List RH)(cs:List Cm)(ds:List Int)(n:Nat):List Int:=[Vg kind rs (cs.getD n cd) (ds.getD n 0),if QS kind rs (cs.getD n cd) (ds.getD n 0)=Zg then 0 else 1,(n:Int)]
def keyV (kind:Int)(rs:List RH)(cs:List Cm)(ds:List Int)(v:IV):List Int:=match v with
 | .int x=>keyN kind rs cs ds x.toNat
 | _=>[0,0,0]
theorem Jwm:∀{a b:List Int},a.length=b.length->ltL a b=Zj->ltL b a=Zj->a=b
 | [],[],_,_,_=>rfl
 | a::as,b::bs,l,h1,h2=>by
  unfold ltL at h1 h2
  by_cases e:a=b
  ·subst e
   rw[if_pos rfl] at h1 h2
   rw[Jwm (by simpa using l) h1 h2]
  ·rw[if_neg e,decide_eq_false_iff_not] at h1
   rw[if_neg (ZQ e),decide_eq_false_iff_not] at h2
   omega
 | [],_::_,l,_,_=>by simp at l
 | _::_,[],l,_,_=>by simp at l
section
variable {k:Nat}{h:IH}
theorem Jzk (hx:xs≠[])(hy:ys≠[])(hl:xs.length+ys.length<=sizeLine):WR (Jl (.tup xs) (.tup ys) h) Q=Q (.tup (xs++ys)) h:=by
 unfold Jl
 dsimp only
 rw[if_pos ⟨hx,hy,hl⟩]
 rfl
theorem ols {D T:Nat}:(ofs D T).lookup ("standing":Str)=Zc:=by kernel_rfl
theorem qls:(ofs1 D).lookup ("standing":Str)=Zc:=by kernel_rfl
theorem olp {D T:Nat}:(ofs D T).lookup ("pick":Str)=Zc:=by kernel_rfl
theorem qlp:(ofs1 D).lookup ("pick":Str)=Zc:=by kernel_rfl
abbrev stv (kind:Int)(rs:List RH)(c:Cm)(d:Int):IV:=.tup [.int (Vg kind rs c d),.int (if QS kind rs c d=Zg then 0 else 1)]
theorem Jnv {c:Cm}{d:Int}(o:IsOr h kind O rs)(ha:c.at_<rs.length)(l6:∀r∈rs,r.2.length<=6) :
  WR (Yb (k+4) [.ref O,tupC c,.int d] h) λ v h'=>v=stv kind rs c d/\Ex h h':=by
 have hb:=J2
 rw[Jf2]
 dsimp! [Jba]
 refine WR.mono (Jpp (k:=k) (c:=c) (d:=d) o rfl rfl rfl ha l6) ?_
 rintro _ h1 ⟨rfl,x1⟩
 try simp(implicitDefEqProofs:=Zj) only[YY,Xz,Jkw,YZ,YW,Nb,Jkx,YV,Vb,Jpk,YX,Jpl,XZ,Q2,Jv,Vy,Qm,Yp,Jty,Vv,Jv3,Jo4,Jv1,Jvv,YT,Jpj,Jkt,Jku,YG,Jkq,Jg4,YU,YQ,Jkr,Vx,Jvp,Xy,Jo7,Jg6,Jg7,Xe,YK,YD,Jpi,Jpb,YS,YI,YR,VJ,YF,Jvy,Jvw,Jvu,Jvt,Jvs,Jvz,Jo6,Jpc,Jo5,Jkv,Jpd,YJ,Jv0,JT,Vw,Xd,Jks,Jo8,Jpa,Jo9,Jph,Jg5,Krz,Ksz,Kvz,Ktz,Kuz]
 refine WR.mono (Jmx (k:=k) (c:=c) (d:=d) (o.kp x1.kp) rfl rfl rfl ha l6) ?_
 rintro _ h2 ⟨rfl,x2⟩
 have x:=x1.trans x2
 simp! [ZB,ZaM,stv]
 cases QS kind rs c d with
 | true=>exact⟨λ _=>⟨by omega,rfl,x⟩,λ z=>by cases z⟩
 | false=>exact⟨(λ z=>by cases z),λ _=>⟨by omega,rfl,x⟩⟩
theorem Jig {kind:Int}{O:Nat}{d:Int}{oe e1 e2:E1}(o:IsOr h kind O rs)(ho:oe σ h=.ok (.ref O) h)(h1:e1 σ h=.ok (tupC c) h)(h2:e2 σ h=.ok (.int d) h)(ha:c.at_<rs.length)(l6:∀r∈rs,r.2.length<=6) :
  WR (Jo (pg (k+4)) "standing" 2 oe (Jb e1 (Jb e2 Jd)) σ h) λ v h'=>v=stv kind rs c d/\Ex h h':=by
 have so:=Jnv (k:=k) (d:=d) o ha l6
 obtain⟨D,hd,⟨rfl,gO⟩|⟨rfl,gO⟩|⟨rfl,T,kvs,gO,gT,tv⟩⟩:=o
 ·rw[Qr (i:=O) (h1:=h) ho gO qls (Jfz _)]
  dsimp! [h1,h2]
  exact so
 ·rw[Qr (i:=O) (h1:=h) ho gO qls (Jdl _)]
  dsimp! [h1,h2]
  exact so
 ·rw[Qr (i:=O) (h1:=h) ho gO ols (Jfj _)]
  dsimp! [h1,h2]
  exact so
theorem Jyu {O R W N:Nat}{ps:List Nat}{ds:List Int}(h0:h[0]?=Za (.tab "Order.pick"))(o:IsOr h kind O rs)(l6:∀r∈rs,r.2.length<=6)(hc:∀c∈cs,c.at_<rs.length) 
  (gR:h[R]?=Za (.lst (cs.map tupC)))(gW:h[W]?=Za (.lst (ps.map λ p:Nat=>.int p)))(gN:h[N]?=Za (.lst (ds.map .int)))(ld:ds.length=cs.length)(ne:ps≠[])(hp:∀p∈ps,p<cs.length) :
  WR (X1 (k+5) [.ref O,.ref R,.ref W,.ref N] h) λ v h'=>∃p∈ps,v=.int (p:Int)/\(∀p'∈ps,ltL (keyN kind rs cs ds p') (keyN kind rs cs ds p)=Zj)/\Ex h h':=by
 have hb:=J2
 rw[Jj3]
 dsimp! [Jdr]
 rw[Jzr h0 rfl]
 refine WR.mono (Jth (kf:=keyV kind rs cs ds) (n:=3) gW (by simpa using ne) ?_ ?_) ?_
 ·intro y hy h1 x1
  obtain⟨p,hp',rfl⟩:=ZC.mp hy
  have lp:=hp p hp'
  have ac:atI (cs.map tupC) (p:Int)=Za (tupC cs[p]):=JE (by rw[Zv,Zb lp];rfl)
  have ad:atI (ds.map IV.int) (p:Int)=Za (.int (ds[p]'(by omega))):=JE (by rw[Zv,Zb];rfl)
  have ek:keyV kind rs cs ds (.int (p:Int))=[Vg kind rs cs[p] (ds[p]'(by omega)),if QS kind rs cs[p] (ds[p]'(by omega))=Zg then 0 else 1,(p:Int)]:=by
   show keyN kind rs cs ds (Zc1 (p:Int))=_
   rw[ZaF]
   unfold keyN
   rw[Zk,Zk,Zb lp,Zb (show p<ds.length by omega)]
   rfl
  have hc':=hc _ (Z3 lp)
  rw[ek]
  generalize cs[p]=c at ac hc'
  generalize ds[p]'(by omega)=d at ad
  simp only[Z4,Za6,Za9,ZaA,ZbI]
  generalize hσ:([Za (.int (p:Int)),Za (.ref N),Za (.ref R),Za (.ref O)]:ISt)=σ
  have e1:Jc Jf (Ja 2) (Ja 0) σ h1=.ok (tupC c) h1:=Js (by subst hσ;simp! [Jtg,x1.get gR,ac])
  have e2:Jc Jf (Ja 1) (Ja 0) σ h1=.ok (.int d) h1:=Js (by subst hσ;simp! [Jtg,x1.get gN,ad])
  dsimp! [Jcl]
  refine WR.mono (Jig (k:=k) (o.kp x1.kp) (by subst hσ;rfl) e1 e2 hc' l6) ?_
  rintro _ h2 ⟨rfl,x2⟩
  subst hσ
  simp! [stv,ZB,ZaM]
  refine⟨by omega,?_⟩
  rw[Jzk (by simp) (by simp) (by simp;omega)]
  exact⟨rfl,x2⟩
 ·intro y hy
  obtain⟨p,hp',rfl⟩:=ZC.mp hy
  rfl
 ·rintro v h1 ⟨hv,le,x1⟩
  obtain⟨p,hp',rfl⟩:=ZC.mp hv
  refine⟨p,hp',rfl,λ p' q=>?_,x1⟩
  have:=le _ (ZC.mpr ⟨p',q,rfl⟩)
  simpa only[keyV,ZaF] using this
theorem Jpo {kind:Int}{O:Nat}{oe:E1}{a:A1}{v1 v2 v3:IV}(o:IsOr h kind O rs)(ho:oe σ h=.ok (.ref O) h)(h1:a σ h=.ok [v1,v2,v3] h)(q:WR (X1 k [.ref O,v1,v2,v3] h) P) :
  WR (Jo (pg k) "pick" 3 oe a σ h) P:=by
 obtain⟨D,hd,⟨rfl,gO⟩|⟨rfl,gO⟩|⟨rfl,T,kvs,gO,gT,tv⟩⟩:=o
 ·rw[Qr (i:=O) (h1:=h) ho gO qlp (Jjx _),h1]
  dsimp! [Xz]
  exact q
 ·rw[Qr (i:=O) (h1:=h) ho gO qlp (Jgk _),h1]
  dsimp! [Xz]
  exact q
 ·rw[Qr (i:=O) (h1:=h) ho gO olp (Jin _),h1]
  dsimp! [Xz]
  exact q
end
section
seal L4.run L4.WS
def rdC (c:Cm):Int:=c.come+c.late
section
variable {k:Nat}{h:IH}
theorem chL (ea:a σ h=.ok (.int i) h1)(eb:b σ h1=.ok (.int j) h2)(ec:c σ h2=.ok (.int l) h3)(t1:i<=j)(t2:j<=l):JW cLe cLe a b c σ h=.ok (.bl Zg) h3:=by
 unfold JW
 rw[ea]
 dsimp only[Res.bind]
 rw[eb]
 show(match IV.bl (decide (i<=j)) with|.bl Zg=>_|.bl Zj=>_|_=>_)=_
 rw[decide_eq_true t1]
 show(c σ h2).bind _=_
 rw[ec]
 show Res.ok (IV.bl (decide (j<=l))) h3=_
 rw[decide_eq_true t2]
theorem Juf (hd:IsDu h D rs)(ok:COk rs c):WR (Jdz (k+3) [.ref D,tupC c] h) λ v h'=>v=.bl Zg/\Ex h h':=by
 have hb:=J2
 obtain⟨vs,hD,w⟩:=hd
 have wl:=w.len
 obtain⟨a,b,c,d⟩:=c
 obtain⟨q1,q2,q3,q4,q5,q6⟩:=ok
 have q1:a<rs.length:=q1
 obtain⟨j,ev,gj⟩:=w.get (Zb q1)
 have av:=JE ev
 have q4:c<=(rs[a]).1.late:=q4
 have q6:d<=(rs[a]).1.len:=q6
 generalize rs[a]=r at gj q4 q6
 rw[Jlo]
 refine xfin (xseq (xiff rfl (xnil (xseq ?_))))
 obtain⟨_,_,ec,rfl,g,rfl⟩:=(Qh (it:=Jx (Ja 1)) (e:=Ja8 (k+2)) (js:=[]) (σ:=[Za (.ref D),Za (tupC ⟨a,b,c,d⟩),Zc]) (h0:=h) (h:=h) (xs:=[IV.int (a:Int),IV.int b,IV.int c,IV.int d]) (chk:=λ _=>True) (f:=λ _=>.bl Zg) ⟨rfl,rfl,rfl⟩ (by simp;omega) (λ _ _=>trivial) (by
  intro v hv h2 q
  obtain⟨i,rfl⟩:∃i,v=.int i:=by
   simp only[Z6,ZT,or_false] at hv
   rcases hv with rfl|rfl|rfl|rfl<;>exact⟨_,rfl⟩
  unfold Ja8
  exact Je (JN (arg1 rfl) (Jge _)) ⟨rfl,.refl _⟩)).eq
 refine xiff (notE (c:=Zg) (truE ((cbE (arg1 ec)).trans (all_map (f:=λ _=>Zg) Jz)))) (xnil ?_)
 have x1:Ex h (h++IX.lst ([IV.int (a:Int),IV.int b,IV.int c,IV.int d].map λ _=>.bl Zg)::g):=.cons _ _ _
 generalize h++IX.lst ([IV.int (a:Int),IV.int b,IV.int c,IV.int d].map λ _=>.bl Zg)::g=h1 at x1
 have D1:=x1.get hD
 refine xseq (xiff (orF (notE (tofE (chT rfl (ixtE rfl rfl Qc) (dotE rfl D1 dls (Jc8 _) rfl (Jhq D1)) (Int.natCast_nonneg a) (by rw[wl];omega)))) (okc (ltE (ixtE rfl rfl JU) rfl) (decide_eq_false (Int.not_lt.mpr q2)))) (xnil (xseq (xset (Je (wkE D1 rfl (ixtE rfl rfl Qc) av) ?_)))))
 exact xret (Je (J20 (chL rfl (ixtE rfl rfl Qj) (fldE rfl (x1.get gj) fl4) q3 q4) (chL rfl (ixtE rfl rfl Qf) (fldE rfl (x1.get gj) fl2) q5 q6)) ⟨rfl,x1⟩)
theorem Jxw {cs:List Cm}(hd:IsDu h D rs)(gR:h[R]?=Za (.lst (cs.map tupC)))(L:Legal rs cs)(hl:cs.length<=1000) :
  WR (Jbv (k+4) [.ref D,.ref R] h) λ v h'=>v=.non/\Ex h h':=by
 have hb:=J2
 obtain⟨vs,hD,w⟩:=id hd
 rw[Jir]
 refine xfin (xseq (xset (Je rfl (xseq (xfor ?_)))))
 rw[Vw]
 refine Je (arg1 rfl) ((Jn1 _).mpr ⟨_,grow gR,?_⟩)
 refine Qn (λ n σ h'=>∃kvs g a b c,h'=h++IX.dct kvs::g/\σ=[Za (.ref D),Za (.ref R),Za (.ref h.length),a,b,c]/\kvs.length<=n/\∀(a:Nat) v,valI kvs (.inl (a:Int))=Za v->∃i c,i<n/\cs[i]?=Za c/\c.at_=a/\v=.int c.come) ?_ ?_ ?_ ⟨[],[],Zc,Zc,Zc,rfl,rfl,Zo _,λ a v e=>by cases e⟩
 ·rintro _ _ _ ⟨kvs,g,a,b,c,rfl,_⟩
  exact grow gR
 ·rintro n hn _ _ ⟨kvs,g,a,b,c,rfl,rfl,ln,td⟩
  rw[Jm7]
  have hc:n<cs.length:=by simpa [VU] using hn
  have x1:Ex h (h++IX.dct kvs::g):=.cons _ _ _
  rw[ZJ]
  have ec:cs[n]?=Za cs[n]:=Zb hc
  have ok:=L.ok _ (Z3 hc)
  generalize cs[n]=ci at ec ok
  obtain⟨_,_,e2,rfl,g2,rfl⟩:=(Juf (k:=k) (c:=ci) (hd.kp x1.kp) ok).eq
  refine xnx rfl (xseq (xiff (notE (truE (JN (arg2 rfl rfl) e2))) (xnil (xseq (xset (Je (ixtE rfl rfl Qc) (xseq ?_)))))))
  have eh:h++IX.dct kvs::g++g2=h++IX.dct kvs::(g++g2):=by rw[ZZ,ZU]
  rw[eh]
  have x2:Ex h (h++IX.dct kvs::(g++g2)):=.cons _ _ _
  have hat:=ok.at_
  have er:=Zb hat
  obtain⟨j,ev,gj⟩:=w.get er
  have av:=JE ev
  generalize rs[ci.at_]=r at er gj
  have fin:∀{σ:ISt}(a b c),σ=[Za (.ref D),Za (.ref R),Za (.ref h.length),a,b,c]->∃kvs_1 g_1 a b c,List.set (h++IX.dct kvs::(g++g2)) h.length (IX.dct (putD kvs (.inl (ci.at_:Int)) (.int ci.come)))=h++IX.dct kvs_1::g_1/\σ=[Za (.ref D),Za (.ref R),Za (.ref h.length),a,b,c]/\kvs_1.length<=n+1/\∀(a:Nat) v,valI kvs_1 (.inl (a:Int))=Za v->∃i c,i<n+1/\cs[i]?=Za c/\c.at_=a/\v=.int c.come:=by
   intro σ a b c hσ
   refine⟨_,_,_,_,_,VZ _ _ _,hσ,?_,λ a v e=>?_⟩
   ·unfold putD
    split
    ·rw[Zi];omega
    ·rw[Zt,Zac];omega
   ·rw[Jkm] at e
    split at e
    ·rename_i z
     cases e
     exact⟨n,ci,by omega,ec,by have:=Sum.inl.inj z;omega,rfl⟩
    ·obtain⟨i,c,h1,h2⟩:=td a v e
     exact⟨i,c,by omega,h2⟩
  have key:∀{σ:ISt}(a b:Option IV),σ=[Za (.ref D),Za (.ref R),Za (.ref h.length),a,Za (tupC ci),Za (.int (ci.at_:Int))]->∀P,WS (sAsg (Jc Jf (Ja 4) (eC (.int 1))) (gSbD (Ja 2) (Ja 5)) σ (h++IX.dct kvs::(g++g2))) (λ σ h'=>∃kvs g a b c,h'=h++IX.dct kvs::g/\σ=[Za (.ref D),Za (.ref R),Za (.ref h.length),a,b,c]/\kvs.length<=n+1/\∀(a:Nat) v,valI kvs (.inl (a:Int))=Za v->∃i c,i<n+1/\cs[i]?=Za c/\c.at_=a/\v=.int c.come) P:=by
   rintro σ a b rfl P
   refine(Vb ..).mpr (Je (ixtE rfl rfl JU) ?_)
   rw[Jtk]
   refine Je rfl (Je rfl ?_)
   rw[Jpm (Jz (h:=h)) (show kvs.length<sizeLine by omega)]
   exact fin _ _ _ rfl
  have ei:∀{σ:ISt}(a b:Option IV),σ=[Za (.ref D),Za (.ref R),Za (.ref h.length),a,Za (tupC ci),Za (.int (ci.at_:Int))]->Jh asB (Jc cInD (Ja 5) (Ja 2)) σ (h++IX.dct kvs::(g++g2))=.ok (valI kvs (.inl (ci.at_:Int))).isSome (h++IX.dct kvs::(g++g2)):=by
   rintro σ a b rfl
   exact tofE ((binE rfl rfl).trans (Js (by rw[Jte Jz];exact⟨rfl,rfl⟩)))
  cases el:valI kvs (.inl (ci.at_:Int)) with
  | none=>exact xiff (andF ((ei _ Zc rfl).trans (by rw[el];rfl))) (xnil (key _ Zc rfl _))
  | some l =>
   obtain⟨i,c0,hi,e0,ea,rfl⟩:=td _ _ el
   have far:=L.far i n c0 ci hi e0 ec ea r (by rw[ea];exact er)
   exact xiff (andT ((ei _ Zc rfl).trans (by rw[el];rfl)) (okc (ltE (subE (ixtE rfl rfl JU) ((binE rfl rfl).trans (Js (by rw[Jxa Jz el];exact⟨rfl,rfl⟩)))) (fldE (wkE (x2.get hD) rfl rfl av) (x2.get gj) fl1)) (decide_eq_false (by omega)))) (xnil (key _ Zc rfl _))
 ·rintro _ _ ⟨kvs,g,a,b,c,rfl,rfl,_⟩
  exact xret (Je rfl ⟨rfl,.cons _ _ _⟩)
theorem Jz0 {cs:List Cm}(hd:IsDu h D rs)(gR:h[R]?=Za (.lst (cs.map tupC)))(L:Legal rs cs)(hl:cs.length<=200) :
  WR (Jg8 (k+5) [.ref D,.ref R] h) λ v h'=>v=.non/\Ex h h':=by
 rw[Jpu]
 refine xfin (xseq (xiff (okc (gtE (lenE rfl gR) rfl) (decide_eq_false (by rw[Zi];omega))) (xnil (xseq (xset (xb (Je (arg2 rfl rfl) (WR.mono (Jxw (k:=k) hd gR L (by omega)) ?_))))))))
 rintro _ h1 ⟨rfl,x1⟩
 exact xiff rfl (xnil ⟨rfl,x1⟩)
theorem Joo:Jje (k+1) [tupC c] h=.ok (.int (rdC c)) h:=Js (by rw[Jt3];exact xfin (xret (Je (addE (ixtE rfl rfl JU) (ixtE rfl rfl Qj)) ⟨rfl,rfl⟩)))
end
end
theorem Jpn {t:T1}{b:S1}{σ:ISt}{h:IH}{N:ISt->IH->Prop}{R:IV->IH->Prop}(I:Nat->ISt->IH->Prop) 
  (turn:∀m σ h,I m σ h->WR (t σ h) λ c h1=>(c=Zg->∃m',m=m'+1/\WS (b σ h1) (I m') R)/\(c=Zj->N σ h1)){m:Nat}(hm:m<1000000)(start:I m σ h):WS (Xt t b σ h) N R:=by
 have key:∀(n m:Nat)(σ:ISt)(h:IH),m<n->I m σ h->WS (VI t b n σ h) N R:=by
  intro n
  induction n with
  | zero=>intro m σ h hn _;omega
  | succ n ih =>
   intro m σ h hn hI
   obtain⟨c,h1,e,q1,q2⟩:=(turn m σ h hI).eq
   unfold VI
   rw[e]
   cases c with
   | false=>exact q2 rfl
   | true =>
    obtain⟨m',rfl,w⟩:=q1 rfl
    simp only[if_true]
    cases eb:b σ h1 with
    | next σ2 h2=>rw[eb] at w;exact ih m' σ2 h2 (by omega) w
    | ret v h2=>rw[eb] at w;exact w
    | _=>rw[eb] at w;exact w.elim
 have et:XW=1000000:=by unfold XW;rfl
 unfold Xt
 exact key _ m σ h (by rw[et];exact hm) start
structure Bs where
 ds:List Int
 lr:List Nat
 wa:List Nat
 t:Int
 sr:List (Nat×Int×Int)
def rdN (cs:List Cm)(p:Nat):Int:=rdC (cs.getD p cd)
def lnN (cs:List Cm)(p:Nat):Int:=(cs.getD p cd).len
def hsN (rs:List RH)(cs:List Cm)(p:Nat):List Hd:=(rs.getD (cs.getD p cd).at_ rd).2
def pops (cs:List Cm)(t:Int):List Nat->List Nat->List Nat×List Nat
 | [],wa=>([],wa)
 | p::lr,wa=>if rdN cs p<=t then pops cs t lr (wa++[p]) else(p::lr,wa)
def tIn (cs:List Cm)(s:Bs):Int:=match s.wa,s.lr with
 | [],p::_=>if rdN cs p>s.t then rdN cs p else s.t
 | _,_=>s.t
def letM (cs:List Cm)(s:Bs):Bs:=⟨s.ds,(pops cs (tIn cs s) s.lr s.wa).1,(pops cs (tIn cs s) s.lr s.wa).2,tIn cs s,s.sr⟩
def VM (kind:Int)(rs:List RH)(cs:List Cm)(ds:List Int)(wa:List Nat)(p:Nat):Prop:=p∈wa/\∀q∈wa,ltL (keyN kind rs cs ds q) (keyN kind rs cs ds p)=Zj
def XH (kind:Int)(rs:List RH)(cs:List Cm)(ds:List Int)(wa:List Nat):Nat:=(wa.find? λ p=>wa.all λ q=>!ltL (keyN kind rs cs ds q) (keyN kind rs cs ds p)).getD 0
theorem VM.uniq (a:VM kind rs cs ds wa p)(b:VM kind rs cs ds wa q):p=q:=by
 have:=Jwm (a:=keyN kind rs cs ds p) (b:=keyN kind rs cs ds q) rfl (b.2 p a.1) (a.2 q b.1)
 simp only[keyN,Zda,and_true] at this
 omega
theorem VM.eq (a:VM kind rs cs ds wa p):XH kind rs cs ds wa=p:=by
 unfold XH
 cases e:wa.find? λ p=>wa.all λ q=>!ltL (keyN kind rs cs ds q) (keyN kind rs cs ds p) with
 | none =>
  have:=List.find?_eq_none.mp e p a.1
  simp only[Zbf,ZaH,Bool.not_eq_true] at this
  exact absurd a.2 this
 | some q =>
  have h1:=List.find?_some e
  simp only[Zbf,ZaH] at h1
  exact VM.uniq ⟨List.mem_of_find?_eq_some e,h1⟩ a
def Qq (hs:List Hd)(d len:Int):List Int:=len::(hs.filter λ a=>decide (d<a.2.2)).map (·.2.2)
def QL (hs:List Hd)(d len:Int):Int:=JY (λ i=>(Qq hs d len).getD i 0) (Qq hs d len).length
def Qb (rs:List RH)(cs:List Cm)(s:Bs)(p:Nat):Int:=match s.lr with
 | []=>QL (hsN rs cs p) (s.ds.getD p 0) (lnN cs p)-s.ds.getD p 0
 | q::_=>if rdN cs q-s.t<QL (hsN rs cs p) (s.ds.getD p 0) (lnN cs p)-s.ds.getD p 0 then rdN cs q-s.t else QL (hsN rs cs p) (s.ds.getD p 0) (lnN cs p)-s.ds.getD p 0
def Vt (p:Nat)(t u:Int):List (Nat×Int×Int)->List (Nat×Int×Int)
 | []=>[(p,t,u)]
 | a::r=>if a.1=p then(p,a.2.1,u)::r else(p,t,u)::a::r
def doM (rs:List RH)(cs:List Cm)(s:Bs)(p:Nat)(n:Int):Bs:=⟨s.ds.set p (s.ds.getD p 0+n),s.lr,if s.ds.getD p 0+n=lnN cs p then s.wa.erase p else s.wa,s.t+n,Vt p s.t (s.t+n) s.sr⟩
def goM (kind:Int)(rs:List RH)(cs:List Cm)(s:Bs):Bs:=doM rs cs s (XH kind rs cs s.ds s.wa) (Qb rs cs s (XH kind rs cs s.ds s.wa))
def QY (kind:Int)(rs:List RH)(cs:List Cm)(s:Bs):Bs:=goM kind rs cs (letM cs s)
def runM (kind:Int)(rs:List RH)(cs:List Cm):Nat->Bs->Bs
 | 0,s=>s
 | m+1,s=>if s.lr=[]/\s.wa=[] then s else runM kind rs cs m (QY kind rs cs s)
def lr0 (cs:List Cm):List Nat:=(ordK (cs.map rdC).reverse cs.length).map λ i=>cs.length-1-i
def s0 (cs:List Cm):Bs:=⟨cs.map λ _=>0,lr0 cs,[],0,[]⟩
def finM (kind:Int)(rs:List RH)(cs:List Cm):Bs:=runM kind rs cs (8*cs.length) (s0 cs)
theorem Joy (hs:List Hd)(d len:Int):QL hs d len=len∨∃a∈hs,d<a.2.2/\QL hs d len=a.2.2:=by
 obtain⟨j,hj,e⟩:=Jq6 (λ i=>(Qq hs d len).getD i 0) (Qq hs d len).length (by simp[Qq])
 unfold QL
 rw[e]
 cases j with
 | zero=>exact .inl rfl
 | succ j =>
  refine .inr ?_
  have hj':j<(hs.filter λ a=>decide (d<a.2.2)).length:=by simpa [Qq] using hj
  have m:=Z3 hj'
  rw[Zbn] at m
  refine⟨_,m.1,of_decide_eq_true m.2,?_⟩
  simp[Qq,Zk,Zb hj']
theorem Jnw (hs:List Hd)(d len:Int):QL hs d len<=len:=Jq5 (λ i=>(Qq hs d len).getD i 0) _ 0 (by simp[Qq])
theorem Jzc (h:d<len):d<QL hs d len:=by
 rcases Joy hs d len with e|⟨a,_,l,e⟩<;>omega
structure Wf (cs:List Cm)(s:Bs):Prop where
 ld:s.ds.length=cs.length
 mem:∀p∈s.lr++s.wa,p<cs.length
 nd:(s.lr++s.wa).Nodup
 srt:s.lr.Pairwise λ p q=>rdN cs p<=rdN cs q
 z:∀p∈s.lr++s.wa,0<=s.ds.getD p 0/\s.ds.getD p 0<lnN cs p
 dn:∀p,p<cs.length->p∉s.lr++s.wa->s.ds.getD p 0=lnN cs p
 z0:∀p∈s.lr,s.ds.getD p 0=0
 rw:∀p∈s.wa,rdN cs p<=s.t
theorem Jh7 (cs:List Cm)(t:Int):∀(lr wa:List Nat),((pops cs t lr wa).1++(pops cs t lr wa).2).Perm (lr++wa)
 | [],wa=>.refl _
 | p::lr,wa=>by
  unfold pops
  split
  ·refine(Jh7 cs t lr (wa++[p])).trans ?_
   rw[<- ZZ]
   exact List.perm_append_singleton p (lr++wa)
  ·exact .refl _
theorem XJ (cs:List Cm)(t:Int):∀(lr wa:List Nat),∃a,lr=a++(pops cs t lr wa).1/\(pops cs t lr wa).2=wa++a/\(∀p∈a,rdN cs p<=t)/\∀q r,(pops cs t lr wa).1=q::r->t<rdN cs q
 | [],wa=>⟨[],rfl,by simp[pops],by simp,by simp[pops]⟩
 | p::lr,wa=>by
  unfold pops
  split
  ·rename_i c
   obtain⟨a,e1,e2,e3,e4⟩:=XJ cs t lr (wa++[p])
   exact⟨p::a,congrArg (p:: ·) e1,by rw[e2];simp,λ q hq=>by rcases Z6.mp hq with rfl|hq;exact c;exact e3 q hq,e4⟩
  ·rename_i c
   exact⟨[],rfl,by simp,by simp,λ q r e=>by cases e;omega⟩
theorem Js4 (cs:List Cm)(s:Bs):s.t<=tIn cs s:=by
 unfold tIn
 split
 ·split<;>omega
 ·omega
theorem Wf.let (w:Wf cs s):Wf cs (letM cs s):=by
 obtain⟨a,e1,e2,e3,e4⟩:=XJ cs (tIn cs s) s.lr s.wa
 have pm:=Jh7 cs (tIn cs s) s.lr s.wa
 have tg:=Js4 cs s
 refine⟨w.ld,λ p hp=>w.mem p (pm.mem_iff.mp hp),pm.nodup_iff.mpr w.nd,?_,λ p hp=>w.z p (pm.mem_iff.mp hp),λ p l hp=>w.dn p l λ z=>hp (pm.mem_iff.mpr z),λ p hp=>w.z0 p ?_,λ p hp=>?_⟩
 ·have:=w.srt
  rw[e1] at this
  exact(ZcU.mp this).2.1
 ·rw[e1]
  exact Zn _ hp
 ·have hp:p∈(pops cs (tIn cs s) s.lr s.wa).2:=hp
  rw[e2] at hp
  rcases ZM.mp hp with hp|hp
  ·have:=w.rw p hp
   exact Zb6 this tg
  ·exact e3 p hp
theorem Jsb {s:Bs}(ne:¬(s.lr=[]/\s.wa=[])):(letM cs s).wa≠[]:=by
 obtain⟨a,e1,e2,e3,e4⟩:=XJ cs (tIn cs s) s.lr s.wa
 intro e
 have e:(pops cs (tIn cs s) s.lr s.wa).2=[]:=e
 rw[e2] at e
 obtain⟨ew,ea⟩:=List.append_eq_nil_iff.mp e
 cases el:s.lr with
 | nil=>exact ne ⟨el,ew⟩
 | cons p r =>
  have:=e4 p r (by rw[<- el];simpa [ea] using e1.symm)
  have ht:tIn cs s=if rdN cs p>s.t then rdN cs p else s.t:=by unfold tIn;rw[ew,el]
  rw[ht] at this
  split at this<;>omega
theorem Jwj (w:Wf cs s):∀q∈(letM cs s).lr,(letM cs s).t<rdN cs q:=by
 obtain⟨a,e1,e2,e3,e4⟩:=XJ cs (tIn cs s) s.lr s.wa
 have ws:=w.let.srt
 show ∀q∈(pops cs (tIn cs s) s.lr s.wa).1,tIn cs s<rdN cs q
 have ws:((pops cs (tIn cs s) s.lr s.wa).1).Pairwise _:=ws
 cases e:(pops cs (tIn cs s) s.lr s.wa).1 with
 | nil=>simp
 | cons p r =>
  have:=e4 p r e
  rw[e] at ws
  intro q hq
  rcases Z6.mp hq with rfl|hq
  ·exact this
  ·have:=(Zcu.mp ws).1 q hq
   omega
theorem Jif {s:Bs}(gt:∀q∈s.lr,s.t<rdN cs q)(l:s.ds.getD p 0<lnN cs p):0<Qb rs cs s p/\s.ds.getD p 0+Qb rs cs s p<=QL (hsN rs cs p) (s.ds.getD p 0) (lnN cs p):=by
 have:=Jzc (hs:=hsN rs cs p) l
 unfold Qb
 split
 ·omega
 ·rename_i q r e
  have:=gt q (by rw[e];simp)
  split<;>omega
theorem Ys {α:Type}{l:List α}{i j:Nat}{x z:α}:(l.set i x).getD j z=if i=j/\j<l.length then x else l.getD j z:=by
 simp only[Zk,List.getElem?_set]
 by_cases e:i=j
 ·subst e
  by_cases l':i<l.length
  ·simp[l']
  ·simp[l',ZaJ (ZcL l')]
 ·simp[e]
theorem Wf.do {rs:List RH}{cs:List Cm}{s:Bs}(w:Wf cs s){p:Nat}(hp:p∈s.wa){n:Int}(n0:0<n)(nl:s.ds.getD p 0+n<=lnN cs p):Wf cs (doM rs cs s p n):=by
 have lp:=w.mem p (Zn _ hp)
 have sub:(s.lr++(doM rs cs s p n).wa).Sublist (s.lr++s.wa):=by
  refine List.Sublist.append_left ?_ _
  show List.Sublist (if _ then _ else _) _
  split
  ·exact List.erase_sublist
  ·exact List.Sublist.refl _
 have nl':∀q∈s.lr,q≠p:=λ q hq e=>(ZcU.mp w.nd).2.2 q hq p hp e
 have nw:s.wa.Nodup:=(ZcU.mp w.nd).2.1
 have g:∀q,(doM rs cs s p n).ds.getD q 0=if p=q then s.ds.getD p 0+n else s.ds.getD q 0:=λ q=>by
  show(s.ds.set p _).getD q 0=_
  rw[Ys]
  by_cases e:p=q
  ·subst e;rw[if_pos ⟨rfl,by rw[w.ld];exact lp⟩,if_pos rfl]
  ·rw[if_neg λ z=>e z.1,if_neg e]
 refine⟨by show(s.ds.set _ _).length=_;rw[Zbo];exact w.ld,λ q hq=>w.mem q (sub.subset hq),w.nd.sublist sub,w.srt,λ q hq=>?_,λ q lq hq=>?_,λ q hq=>?_,λ q hq=>?_⟩
 ·have:=w.z q (sub.subset hq)
  rw[g]
  split
  ·rename_i e
   subst e
   refine⟨by omega,?_⟩
   rcases ZM.mp hq with hq|hq
   ·exact absurd rfl (nl' p hq)
   ·have hq:p∈if s.ds.getD p 0+n=lnN cs p then s.wa.erase p else s.wa:=hq
    split at hq
    ·exact absurd hq (List.Nodup.not_mem_erase nw)
    ·omega
  ·exact this
 ·rw[g]
  split
  ·rename_i e
   subst e
   have hq:p∉s.lr++if s.ds.getD p 0+n=lnN cs p then s.wa.erase p else s.wa:=hq
   split at hq
   ·assumption
   ·exact absurd (Zn _ hp) hq
  ·rename_i ne
   refine w.dn q lq λ z=>hq ?_
   show q∈s.lr++if s.ds.getD p 0+n=lnN cs p then s.wa.erase p else s.wa
   split
   ·rcases ZM.mp z with z|z
    ·exact Zat _ z
    ·exact Zn _ ((List.mem_erase_of_ne (ZQ ne)).mpr z)
   ·exact z
 ·rw[g,if_neg (ZQ (nl' q hq))]
  exact w.z0 q hq
 ·have:=w.rw q (by
   have hq:q∈if s.ds.getD p 0+n=lnN cs p then s.wa.erase p else s.wa:=hq
   split at hq
   ·exact List.mem_of_mem_erase hq
   ·exact hq)
  show _<=s.t+n
  omega
theorem Jnm:∀{wa:List Nat},wa≠[]->∃p,VM kind rs cs ds wa p
 | [],h=>absurd rfl h
 | [p],_=>⟨p,by simp,λ q hq=>by rw[Zy.mp hq];exact Yv _⟩
 | p::q::r,_=>by
  obtain⟨m,hm,lm⟩:=Jnm (kind:=kind) (rs:=rs) (cs:=cs) (ds:=ds) (wa:=q::r) (by simp)
  cases c:ltL (keyN kind rs cs ds p) (keyN kind rs cs ds m) with
  | true =>
   refine⟨p,by simp,λ x hx=>?_⟩
   rcases Z6.mp hx with rfl|hx
   ·exact Yv _
   ·cases z:ltL (keyN kind rs cs ds x) (keyN kind rs cs ds p) with
    | false=>rfl
    | true=>exact absurd (Jh2 z c) (by rw[lm x hx];exact Zs)
  | false =>
   refine⟨m,Zp _ hm,λ x hx=>?_⟩
   rcases Z6.mp hx with rfl|hx
   ·exact c
   ·exact lm x hx
def VT (rs:List RH)(cs:List Cm)(ds:List Int)(p:Nat):Nat:=((hsN rs cs p).filter λ a=>decide (ds.getD p 0<a.2.2)).length
def mea (rs:List RH)(cs:List Cm)(s:Bs):Nat:=(s.lr++s.wa).length+((ZN cs.length).map (VT rs cs s.ds)).sum+(s.lr.filter λ p=>decide (s.t<rdN cs p)).length
theorem Yq {α:Type}{f g:α->Bool}:∀{l:List α},(∀x∈l,f x=Zg->g x=Zg)->(l.filter f).length<=(l.filter g).length
 | [],_=>by simp
 | x::l,h=>by
  have ih:=Yq (l:=l) λ y hy=>h y (Zp _ hy)
  have:=h x (by simp)
  simp only[ZcO]
  split
  ·rename_i c
   rw[if_pos (this c)]
   simpa using ih
  ·split
   ·simp only[ZB];omega
   ·exact ih
theorem Jm8 {α:Type}{f g:α->Bool}{a:α}:∀{l:List α},a∈l->f a=Zj->g a=Zg->(∀x∈l,f x=Zg->g x=Zg)->(l.filter f).length<(l.filter g).length
 | x::l,ha,fa,ga,h=>by
  have le:=Yq (l:=l) λ y hy=>h y (Zp _ hy)
  have hx:=h x (by simp)
  rcases Z6.mp ha with rfl|ha
  ·simp only[ZcO,fa,ga,if_true,Zaa,if_false,ZB];omega
  ·have ih:=Jm8 ha fa ga λ y hy=>h y (Zp _ hy)
   simp only[ZcO]
   split
   ·rename_i c
    rw[if_pos (hx c)]
    simpa using ih
   ·split
    ·simp only[ZB];omega
    ·exact ih
theorem Jou {f g:Nat->Nat}:∀{l:List Nat},(∀x∈l,f x<=g x)->(l.map f).sum<=(l.map g).sum
 | [],_=>Zo _
 | x::l,h=>by
  have:=h x (by simp)
  have:=Jou (l:=l) λ y hy=>h y (Zp _ hy)
  simp only[Z4,Zek]
  omega
theorem Jwu {f g:Nat->Nat}{a:Nat}:∀{l:List Nat},a∈l->f a<g a->(∀x∈l,f x<=g x)->(l.map f).sum<(l.map g).sum
 | x::l,ha,la,h=>by
  have hx:=h x (by simp)
  have le:=Jou (l:=l) λ y hy=>h y (Zp _ hy)
  simp only[Z4,Zek]
  rcases Z6.mp ha with rfl|ha
  ·omega
  ·have:=Jwu ha la λ y hy=>h y (Zp _ hy)
   omega
theorem Jyj (rs:List RH)(cs:List Cm)(s:Bs):mea rs cs (letM cs s)<=mea rs cs s:=by
 obtain⟨a,e1,e2,e3,e4⟩:=XJ cs (tIn cs s) s.lr s.wa
 have pm:=(Jh7 cs (tIn cs s) s.lr s.wa).length_eq
 have tg:=Js4 cs s
 show((pops cs (tIn cs s) s.lr s.wa).1++(pops cs (tIn cs s) s.lr s.wa).2).length+_+((pops cs (tIn cs s) s.lr s.wa).1.filter λ p=>decide (tIn cs s<rdN cs p)).length<=_
 rw[pm]
 unfold mea
 have h1:=Yq (f:=λ p=>decide (tIn cs s<rdN cs p)) (g:=λ p=>decide (s.t<rdN cs p)) (l:=(pops cs (tIn cs s) s.lr s.wa).1) λ x _ c=>decide_eq_true (ZbN tg (of_decide_eq_true c))
 have h2:(s.lr.filter λ p=>decide (s.t<rdN cs p)).length=(a.filter λ p=>decide (s.t<rdN cs p)).length+((pops cs (tIn cs s) s.lr s.wa).1.filter λ p=>decide (s.t<rdN cs p)).length:=by
  conv=>lhs;rw[e1]
  rw[List.filter_append,Zt]
 have h3:((ZN cs.length).map (VT rs cs (letM cs s).ds)).sum=((ZN cs.length).map (VT rs cs s.ds)).sum:=rfl
 omega
theorem J06 (w:Wf cs s)(gt:∀q∈s.lr,s.t<rdN cs q){p:Nat}(hp:p∈s.wa):mea rs cs (doM rs cs s p (Qb rs cs s p))<mea rs cs s:=by
 have lp:=w.mem p (Zn _ hp)
 obtain⟨n0,nl⟩:=Jif (rs:=rs) gt (w.z p (Zn _ hp)).2
 have sl:=Jnw (hsN rs cs p) (s.ds.getD p 0) (lnN cs p)
 have hn:∀n,n=Qb rs cs s p->0<n/\s.ds.getD p 0+n<=lnN cs p:=λ n e=>by rw[e];exact⟨n0,by omega⟩
 have cases3:(s.ds.getD p 0+Qb rs cs s p=lnN cs p)∨(∃a∈hsN rs cs p,s.ds.getD p 0<a.2.2/\s.ds.getD p 0+Qb rs cs s p=a.2.2)∨∃q∈s.lr,s.t+Qb rs cs s p=rdN cs q:=by
  unfold Qb
  have:=Joy (hsN rs cs p) (s.ds.getD p 0) (lnN cs p)
  split
  ·rcases this with e|⟨a,ha,l,e⟩
   ·exact .inl (by omega)
   ·exact .inr (.inl ⟨a,ha,l,by omega⟩)
  ·rename_i q r e
   split
   ·exact .inr (.inr ⟨q,by rw[e];simp,by omega⟩)
   ·rcases this with e|⟨a,ha,l,e⟩
    ·exact .inl (by omega)
    ·exact .inr (.inl ⟨a,ha,l,by omega⟩)
 generalize Qb rs cs s p=n at n0 nl cases3
 have gd:∀q,(s.ds.set p (s.ds.getD p 0+n)).getD q 0=if p=q then s.ds.getD p 0+n else s.ds.getD q 0:=λ q=>by
  rw[Ys]
  by_cases e:p=q
  ·subst e;rw[if_pos ⟨rfl,by rw[w.ld];exact lp⟩,if_pos rfl]
  ·rw[if_neg λ z=>e z.1,if_neg e]
 have m2:∀q∈ZN cs.length,VT rs cs (s.ds.set p (s.ds.getD p 0+n)) q<=VT rs cs s.ds q:=λ q _=>Yq λ x _ c=>by
  have c:=of_decide_eq_true c
  rw[gd] at c
  refine decide_eq_true ?_
  split at c
  ·rename_i e;subst e;omega
  ·exact c
 have m3:∀x∈s.lr,decide (s.t+n<rdN cs x)=Zg->decide (s.t<rdN cs x)=Zg:=λ x _ c=>decide_eq_true (by have:=of_decide_eq_true c;omega)
 have l2:=Jou m2
 have l3:=Yq m3
 have lw:(s.lr++if s.ds.getD p 0+n=lnN cs p then s.wa.erase p else s.wa).length<=(s.lr++s.wa).length:=by
  rw[Zt,Zt]
  split
  ·have:=Zd0 hp
   omega
  ·omega
 show(s.lr++if s.ds.getD p 0+n=lnN cs p then s.wa.erase p else s.wa).length+((ZN cs.length).map (VT rs cs (s.ds.set p (s.ds.getD p 0+n)))).sum+(s.lr.filter λ x=>decide (s.t+n<rdN cs x)).length<(s.lr++s.wa).length+((ZN cs.length).map (VT rs cs s.ds)).sum+(s.lr.filter λ x=>decide (s.t<rdN cs x)).length
 rcases cases3 with e|⟨a,ha,la,e⟩|⟨q,hq,e⟩
 ·rw[if_pos e,Zt,Zt]
  have:=Zd0 hp
  have:=List.length_pos_of_mem hp
  omega
 ·have:=Jwu (Zal.mpr lp) (Jm8 (a:=a) (f:=λ a=>decide ((s.ds.set p (s.ds.getD p 0+n)).getD p 0<a.2.2)) (g:=λ a=>decide (s.ds.getD p 0<a.2.2)) ha (decide_eq_false (by rw[gd,if_pos rfl];omega)) (decide_eq_true la) λ x _ c=>by
   have c:=of_decide_eq_true c
   rw[gd,if_pos rfl] at c
   exact decide_eq_true (by omega)) m2
  omega
 ·have:=Jm8 (a:=q) (f:=λ x=>decide (s.t+n<rdN cs x)) (g:=λ x=>decide (s.t<rdN cs x)) hq (decide_eq_false (by omega)) (decide_eq_true (gt q hq)) m3
  omega
section
seal L4.run
abbrev nI (n:Nat):IV:=.int (n:Int)
abbrev tupS (a:Nat×Int×Int):IV:=.tup [.int (a.1:Int),.int a.2.1,.int a.2.2]
def bfs (O R D L W:Nat)(t:Int)(S:Nat):List (Str×IV):=[("order",.ref O),("row",.ref R),("dones",.ref D),("later",.ref L),("waiting",.ref W),("turn",.int t),("stretches",.ref S)]
section
variable {O R D L W S:Nat}{t u:Int}
theorem bf0:(bfs O R D L W t S).lookup ("order":Str)=Za (.ref O):=by kernel_rfl
theorem bf1:(bfs O R D L W t S).lookup ("row":Str)=Za (.ref R):=by kernel_rfl
theorem bf2:(bfs O R D L W t S).lookup ("dones":Str)=Za (.ref D):=by kernel_rfl
theorem bf3:(bfs O R D L W t S).lookup ("later":Str)=Za (.ref L):=by kernel_rfl
theorem bf4:(bfs O R D L W t S).lookup ("waiting":Str)=Za (.ref W):=by kernel_rfl
theorem bf5:(bfs O R D L W t S).lookup ("turn":Str)=Za (.int t):=by kernel_rfl
theorem bf6:(bfs O R D L W t S).lookup ("stretches":Str)=Za (.ref S):=by kernel_rfl
theorem bn0:(bfs O R D L W t S).lookup ("next_ready":Str)=Zc:=by kernel_rfl
theorem bn1:(bfs O R D L W t S).lookup ("let_in":Str)=Zc:=by kernel_rfl
theorem bn2:(bfs O R D L W t S).lookup ("turns_for":Str)=Zc:=by kernel_rfl
theorem bn3:(bfs O R D L W t S).lookup ("tell":Str)=Zc:=by kernel_rfl
theorem bn4:(bfs O R D L W t S).lookup ("go_on":Str)=Zc:=by kernel_rfl
theorem bft:putI "turn" (.int u) (bfs O R D L W t S)=bfs O R D L W u S:=by kernel_rfl
end
structure Bg (h0:IH)(kind:Int)(rs:List RH)(cs:List Cm)(O R:Nat):Prop where
 o:IsOr h0 kind O rs
 r:h0[R]?=Za (.lst (cs.map tupC))
 c:∀c∈cs,c.at_<rs.length
 l6:∀r∈rs,r.2.length<=6
 p1:h0[0]?=Za (.tab "Order.pick")
 n:cs.length<=200
structure Bn (h0 h:IH)(B O R D L W S:Nat)(s:Bs):Prop where
 x:Ex h0 h
 ap:h0.length<=B/\B<D/\D<L/\L<W/\W<S
 b:h[B]?=Za (.ins "Bench" (bfs O R D L W s.t S))
 d:h[D]?=Za (.lst (s.ds.map .int))
 l:h[L]?=Za (.lst (s.lr.reverse.map nI))
 w:h[W]?=Za (.lst (s.wa.map nI))
 s:h[S]?=Za (.lst (s.sr.reverse.map tupS))
theorem Vl {h0 h:IH}{i:Nat}{o:IX}(x:Ex h0 h)(l:h0.length<=i):Ex h0 (h.set i o):=by
 obtain⟨g,rfl⟩:=x
 exact⟨g.set (i-h0.length) o,by rw[ZcG _ _ l]⟩
theorem JA {h:IH}{i j:Nat}{o o':IX}(e:h[j]?=Za o)(n:i≠j):(h.set i o')[j]?=Za o:=by rw[ZI n];exact e
theorem QK {h:IH}{i:Nat}{o o':IX}(e:h[i]?=Za o):(h.set i o')[i]?=Za o':=ZL (JC e)
section
variable {h0 h h':IH}{B O R D L W S:Nat}{s:Bs}
theorem Bn.ex (b:Bn h0 h B O R D L W S s)(x:Ex h h'):Bn h0 h' B O R D L W S s:=⟨b.x.trans x,b.ap,x.get b.b,x.get b.d,x.get b.l,x.get b.w,x.get b.s⟩
theorem Bn.setT (b:Bn h0 h B O R D L W S s)(u:Int):Bn h0 (h.set B (.ins "Bench" (bfs O R D L W u S))) B O R D L W S ⟨s.ds,s.lr,s.wa,u,s.sr⟩ :=
 have ap:=b.ap
 ⟨Vl b.x (by omega),ap,QK b.b,JA b.d (by omega),JA b.l (by omega),JA b.w (by omega),JA b.s (by omega)⟩
theorem Bn.setD (b:Bn h0 h B O R D L W S s)(ds:List Int):Bn h0 (h.set D (.lst (ds.map .int))) B O R D L W S ⟨ds,s.lr,s.wa,s.t,s.sr⟩ :=
 have ap:=b.ap
 ⟨Vl b.x (by omega),ap,JA b.b (by omega),QK b.d,JA b.l (by omega),JA b.w (by omega),JA b.s (by omega)⟩
theorem Bn.setL (b:Bn h0 h B O R D L W S s)(lr:List Nat):Bn h0 (h.set L (.lst (lr.reverse.map nI))) B O R D L W S ⟨s.ds,lr,s.wa,s.t,s.sr⟩ :=
 have ap:=b.ap
 ⟨Vl b.x (by omega),ap,JA b.b (by omega),JA b.d (by omega),QK b.l,JA b.w (by omega),JA b.s (by omega)⟩
theorem Bn.setW (b:Bn h0 h B O R D L W S s)(wa:List Nat):Bn h0 (h.set W (.lst (wa.map nI))) B O R D L W S ⟨s.ds,s.lr,wa,s.t,s.sr⟩ :=
 have ap:=b.ap
 ⟨Vl b.x (by omega),ap,JA b.b (by omega),JA b.d (by omega),JA b.l (by omega),QK b.w,JA b.s (by omega)⟩
theorem Bn.setS (b:Bn h0 h B O R D L W S s)(sr:List (Nat×Int×Int)):Bn h0 (h.set S (.lst (sr.reverse.map tupS))) B O R D L W S ⟨s.ds,s.lr,s.wa,s.t,sr⟩ :=
 have ap:=b.ap
 ⟨Vl b.x (by omega),ap,JA b.b (by omega),JA b.d (by omega),JA b.l (by omega),JA b.w (by omega),QK b.s⟩
end
theorem Jq0 {α:Type}{f:α->IV}{p:α}{lr:List α}:atI ((p::lr).reverse.map f) (-1)=Za (f p):=by
 have e:(-1+((lr.length:Int)+1)).toNat=lr.length:=by omega
 have l:(1:Int)<=(lr.length:Int)+1:=by omega
 simp[atI,ixN,e,l]
theorem Qp {cs:List Cm}{p:Nat}(lp:p<cs.length):atI (cs.map tupC) (p:Int)=Za (tupC (cs.getD p cd)):=JE (by rw[Zv,Zk,Zb lp];rfl)
theorem Jxf {ds:List Int}{p:Nat}(lp:p<ds.length):atI (ds.map IV.int) (p:Int)=Za (.int (ds.getD p 0)):=JE (by rw[Zv,Zk,Zb lp];rfl)
section
variable {k:Nat}{h0 h:IH}{kind:Int}{rs:List RH}{cs:List Cm}{B O R D L W S:Nat}{s:Bs}{P:IV->IH->Prop}
theorem J3i (g:Bg h0 kind rs cs O R)(b:Bn h0 h B O R D L W S s){p:Nat}{lr:List Nat}(e:s.lr=p::lr)(lp:p<cs.length):Jag (k+2) [.ref B] h=.ok (.int (rdN cs p)) h:=by
 have bl:=b.l
 rw[e] at bl
 refine Js ?_
 rw[Jeb]
 exact xfin (xret (Je (JN (arg1 (ixlE (fldE rfl b.b bf1) (ixlE (fldE rfl b.b bf3) rfl bl Jq0) (b.x.get g.r) (Qp lp))) Joo) ⟨rfl,rfl⟩))
theorem nrE {Pn:List (Option IV)}(g:Bg h0 kind rs cs O R)(b:Bn h0 h B O R D L W S s){p:Nat}{lr:List Nat}(e:s.lr=p::lr)(lp:p<cs.length):Jo (pg (k+2)) "next_ready" 0 (Ja 0) Jd (Za (.ref B)::Pn) h=.ok (.int (rdN cs p)) h :=
 dotE rfl b.b bn0 (Jd9 _) rfl (J3i g b e lp)
theorem Jsn {cs:List Cm}{t:Int}{p:Nat}{lr wa:List Nat}:pops cs t (p::lr) wa=if rdN cs p<=t then pops cs t lr (wa++[p]) else(p::lr,wa):=rfl
theorem Jwk (g:Bg h0 kind rs cs O R)(ml:∀p∈s.lr,p<cs.length)(hl:s.lr.length+s.wa.length<=1000)(b:Bn h0 h B O R D L W S s) :
  WS (Jcj (k+2) [Za (.ref B)] h) (λ _ h'=>Bn h0 h' B O R D L W S ⟨s.ds,(pops cs s.t s.lr s.wa).1,(pops cs s.t s.lr s.wa).2,s.t,s.sr⟩) P:=by
 have hb:=J2
 refine Jpn (λ m σ h'=>∃lr wa,σ=[Za (.ref B)]/\Bn h0 h' B O R D L W S ⟨s.ds,lr,wa,s.t,s.sr⟩/\lr.length=m/\lr.length+wa.length<=1000/\(∀p∈lr,p<cs.length)/\pops cs s.t lr wa=pops cs s.t s.lr s.wa) ?_ (show s.lr.length<1000000 by omega) ⟨s.lr,s.wa,rfl,b,rfl,hl,ml,rfl⟩
 rintro m _ h1 ⟨lr,wa,rfl,b,lm,l2,ml,ep⟩
 refine J2m (Je (gtE (lenE (fldE rfl b.b bf3) b.l) rfl) (xdec (λ c=>?_) λ c=>?_))
 ·cases lr with
  | nil=>exact absurd c (by simp)
  | cons p lr =>
   rw[Jsn] at ep
   refine Je (leE (nrE g b rfl (ml p (by simp))) (fldE rfl b.b bf5)) (xdec (λ c=>?_) λ c=>?_)
   ·refine⟨lr.length,by simpa using lm.symm,?_⟩
    refine Qs (QP (fldE rfl b.b bf4) b.w V6 (xb (QP (fldE rfl b.b bf3) b.l Jq3 (Je rfl (xpop (y:=nI p) b.l (by simp) ?_)))))
    have e:(((p::lr).reverse.map nI).dropLast)=lr.reverse.map nI:=by simp
    rw[e]
    have b1:=b.setL lr
    refine xb (Je rfl (Je rfl (xapp b1.w (by simp at l2 ⊢;omega) ⟨lr,wa++[p],rfl,?_,rfl,by simp at l2 ⊢;omega,λ q hq=>ml q (Zp _ hq),by rw[<- ep,if_pos c]⟩)))
    have:=b1.setW (wa++[p])
    rw[Zbp] at this
    exact this
   ·rw[if_neg c] at ep
    rw[<- ep]
    exact b
 ·cases lr with
  | nil=>exact⟨(λ z=>by cases z),λ _=>by rw[<- ep];exact b⟩
  | cons p lr=>exact absurd (by simp) c
theorem J3h (g:Bg h0 kind rs cs O R)(ml:∀p∈s.lr,p<cs.length)(hl:s.lr.length+s.wa.length<=1000)(ne:¬(s.lr=[]/\s.wa=[]))(b:Bn h0 h B O R D L W S s) :
  WR (Jbi (k+3) [.ref B] h) λ v h'=>v=.non/\Bn h0 h' B O R D L W S (letM cs s):=by
 rw[Jht]
 refine xfin (xseq (xifd (eqE (lenE (fldE rfl b.b bf4) b.w) rfl) (λ c=>?_) λ c=>?_))
 ·have ew:s.wa=[]:=Zc2.mp (by simpa using c)
  cases el:s.lr with
  | nil=>exact absurd ⟨el,ew⟩ ne
  | cons p lr =>
   have et:tIn cs s=if rdN cs p>s.t then rdN cs p else s.t:=by unfold tIn;rw[ew,el]
   refine V0 (maxE (fldE rfl b.b bf5) (nrE g b el (ml p (by rw[el];simp)))) rfl b.b (by show(7:Nat)<1000;decide) ?_
   rw[bft]
   have b1:=b.setT (if rdN cs p>s.t then rdN cs p else s.t)
   refine WS.mono (Jwk (s:=⟨s.ds,s.lr,s.wa,if rdN cs p>s.t then rdN cs p else s.t,s.sr⟩) g ml hl b1) (λ _ h' q=>⟨rfl,?_⟩) λ _ _ z=>z
   unfold letM
   rw[et]
   exact q
 ·have et:tIn cs s=s.t:=by
   unfold tIn
   split
   ·rename_i e _
    rw[e] at c
    exact absurd rfl c
   ·rfl
  refine xnil (WS.mono (Jwk g ml hl b) (λ _ h' q=>⟨rfl,?_⟩) λ _ _ z=>z)
  unfold letM
  rw[et]
  exact q
end
end
section
seal L4.run
def enP (d:Int):IV->Bool
 | .tup [_,_,.int e]=>decide (d<e)
 | _=>Zj
def enF:IV->IV
 | .tup [_,_,e]=>e
 | _=>.non
theorem Jz5 (hs:List Hd)(d:Int):((hs.map tupH).filter (enP d)).map enF=((hs.filter λ a=>decide (d<a.2.2)).map (·.2.2)).map .int:=by
 induction hs with
 | nil=>rfl
 | cons a hs ih =>
  simp only[Z4,ZcO]
  rw[show enP d (tupH a)=decide (d<a.2.2) from rfl]
  split
  ·simp only[Z4,ih];rfl
  ·exact ih
section
variable {k:Nat}{h0 h:IH}{kind:Int}{rs:List RH}{cs:List Cm}{B O R D L W S:Nat}{s:Bs}{P:IV->IH->Prop}
theorem J3j {gap ln due late d len:Int}{hs:List Hd}(hw:h[w]?=Za (.ins "Work" (wfs name gap ln due late (hs.map tupH))))(l6:hs.length<=6) :
  WR (Jd5 (k+2) [.ref w,.int d,.int len] h) λ v h'=>v=.int (QL hs d len)/\Ex h h':=by
 have hb:=J2
 rw[Jlw]
 have x1:Ex h (h++[.lst [.int len]]):=.one _ _
 refine xfin (xret (xb (xb (xb (xlst (Je (arg1 rfl) ⟨by simp;omega,xb ?_⟩))))))
 refine WR.mono (YH (h:=h++[.lst [.int len]]++[.lst (hs.map tupH)]) (xs:=hs.map tupH) (chk:=λ h'=>h'[(h++[IX.lst [IV.int len]]).length]?=Za (.lst (hs.map tupH))) (p:=enP d) (f:=enF) ?_ (by rw[Zi];omega) (λ h2 q=>q _ _ Jk) ?_ ?_) ?_
 ·rw[JT]
  exact Je (dotE rfl (x1.get hw) flh (Jbh _) rfl (Jfq (x1.get hw))) ((JK _).mpr ⟨_,Jk,rfl,rfl,rfl⟩)
 ·intro v hv h2 q
  obtain⟨a,_,rfl⟩:=ZC.mp hv
  exact Je (gtE (ixtE rfl rfl Qj) rfl) ⟨rfl,.refl _⟩
 ·intro v hv _ h2 q
  obtain⟨a,_,rfl⟩:=ZC.mp hv
  exact Je (ixtE rfl rfl Qj) ⟨rfl,.refl _⟩
 ·rintro _ _ ⟨rfl,g,rfl⟩
  rw[Jz5]
  have lf:=Zb0 (λ a:Hd=>decide (d<a.2.2)) hs
  have x2:Ex (h++[.lst [.int len]]) (h++[.lst [.int len]]++[.lst (hs.map tupH)]++.lst (((hs.filter λ a=>decide (d<a.2.2)).map (·.2.2)).map .int)::g):=(Ex.one _ _).trans (.cons _ _ _)
  refine(YE ..).mpr ⟨_,x2.get Jk,_,Jz,by simp;omega,?_⟩
  refine xb (Je rfl (Je rfl ?_))
  rw[Xy,show[IV.int len]++((hs.filter λ a=>decide (d<a.2.2)).map (·.2.2)).map .int=(Qq hs d len).map .int from rfl,Jn3 Jk (by simp[Qq])]
  exact⟨rfl,(x1.trans x2).trans (.one _ _)⟩
theorem Jsm (o:IsOr h kind O rs):∃Du,IsDu h Du rs/\∀(e:E1) (σ:ISt),e σ h=.ok (.ref O) h->Jq "duty" e σ h=.ok (.ref Du) h:=by
 obtain⟨D,hd,⟨_,gO⟩|⟨_,gO⟩|⟨_,T,kvs,gO,_⟩⟩:=o
 ·exact⟨D,hd,λ e σ he=>fldE he gO ql0⟩
 ·exact⟨D,hd,λ e σ he=>fldE he gO ql0⟩
 ·exact⟨D,hd,λ e σ he=>fldE he gO ol0⟩
theorem J4e (g:Bg h0 kind rs cs O R)(ml:∀p∈s.lr,p<cs.length)(b:Bn h0 h B O R D L W S s)(lp:p<cs.length)(ld:s.ds.length=cs.length) :
  WR (Jam (k+3) [.ref B,nI p] h) λ v h'=>v=.int (Qb rs cs s p)/\Ex h h':=by
 obtain⟨Du,⟨vs,gD,w⟩,fd⟩:=Jsm (g.o.kp b.x.kp)
 have ca:(cs.getD p cd).at_<rs.length:=g.c _ (by rw[Zk,Zb lp];exact Z3 lp)
 have l6:=g.l6 _ (Z3 ca)
 obtain⟨j,ej,gj⟩:=w.get (Zb ca)
 have av:atI vs ((cs.getD p cd).at_:Int)=Za (.ref j):=JE ej
 have hh:hsN rs cs p=(rs[(cs.getD p cd).at_]).2:=by unfold hsN;rw[Xm ca]
 rw[<- hh] at l6
 rw[Jfl]
 refine xfin (xseq (xset (Je (ixlE (fldE rfl b.b bf1) rfl (b.x.get g.r) (Qp lp)) (xseq (xset (Je (ixlE (fldE rfl b.b bf2) rfl b.d (Jxf (by omega))) ?_))))))
 refine xseq (xset (xb (xb (xb (Je (dotE (fd _ _ (fldE rfl b.b bf0)) gD dlw (Jbg _) (arg1 (ixtE rfl rfl Qc)) (Jfk gD av)) (xb (Je (arg2 rfl (ixtE rfl rfl Qf)) (Je rfl ?_))))))))
 have gj:h[j]?=Za (.ins "Work" (wfs _ _ _ _ _ ((rs[(cs.getD p cd).at_]).2.map tupH))):=gj
 rw[<- hh] at gj
 refine WR.mono (J3j (k:=k) gj l6) ?_
 rintro _ h1 ⟨rfl,x1⟩
 have b1:=b.ex x1
 refine xb (Je rfl (Je rfl (xseq (xifd (gtE (lenE (fldE rfl b1.b bf3) b1.l) rfl) (λ c=>?_) λ c=>?_))))
 ·cases el:s.lr with
  | nil=>rw[el] at c;exact absurd c (by simp)
  | cons q lr =>
   refine xset (Je (minE rfl (subE (nrE g b1 el (ml q (by rw[el];simp))) (fldE rfl b1.b bf5))) (xret (Je rfl ⟨?_,x1⟩)))
   unfold Qb
   rw[el]
   rfl
 ·refine xnil (xret (Je rfl ⟨?_,x1⟩))
  have el:s.lr=[]:=by
   cases el:s.lr with
   | nil=>rfl
   | cons q lr=>rw[el] at c;exact absurd (by simp) c
  unfold Qb
  rw[el]
  rfl
theorem J4d (b:Bn h0 h B O R D L W S s)(sl:s.sr.length<100000):WR (Jcn (k+1) [.ref B,nI p,.int u] h) λ v h'=>v=.non/\Bn h0 h' B O R D L W S ⟨s.ds,s.lr,s.wa,s.t,Vt p s.t u s.sr⟩:=by
 have hb:=J2
 have fin:∀{h1:IH}{bg:Int}{r:List (Nat×Int×Int)},Bn h0 h1 B O R D L W S ⟨s.ds,s.lr,s.wa,s.t,r⟩->r.length<=s.sr.length->Vt p s.t u s.sr=(p,bg,u)::r ->
   WS (Jdn k [Za (.ref B),Za (nI p),Za (.int u),Za (.int bg)] h1) (λ _ h'=>IV.non=.non/\Bn h0 h' B O R D L W S ⟨s.ds,s.lr,s.wa,s.t,Vt p s.t u s.sr⟩) λ v h'=>v=.non/\Bn h0 h' B O R D L W S ⟨s.ds,s.lr,s.wa,s.t,Vt p s.t u s.sr⟩:=by
  intro h1 bg r b1 lr et
  refine Qs (QP (fldE rfl b1.b bf6) b1.s V6 (xb (xtup (xb (Je rfl (xb (Je (arg2 rfl rfl) (Je rfl ⟨by simp;omega,xb (Je rfl (Je rfl (xapp b1.s (by simp;omega) ⟨rfl,?_⟩)))⟩))))))))
  have:=b1.setS ((p,bg,u)::r)
  rw[Zb3,Zbp] at this
  rw[et]
  exact this
 rw[Jj0]
 refine xfin (xseq (xset (Je (fldE rfl b.b bf5) (xseq (xif (J2m (Je (gtE (lenE (fldE rfl b.b bf6) b.s) rfl) (xdec (λ c=>?_) λ c=>?_))))))))
 ·cases es:s.sr with
  | nil=>rw[es] at c;exact absurd c (by simp)
  | cons a r =>
   have bs:=b.s
   rw[es] at bs
   refine Je (eqE (ixtE (ixlE (fldE rfl b.b bf6) rfl bs Jq0) rfl Qc) rfl) (xdec (λ c=>?_) λ c=>?_)
   ·refine xset (xb (QP (fldE rfl b.b bf6) bs Jq3 (Je rfl (xpop (y:=tupS a) bs (by simp) (xb (Je rfl (xixt JU ?_)))))))
    have e:((a::r).reverse.map tupS).dropLast=r.reverse.map tupS:=by simp
    rw[e]
    rw[<- es]
    refine fin (r:=r) (b.setS r) (by rw[es];simp) ?_
    rw[es]
    exact if_pos (by omega)
   ·refine xnil ?_
    rw[<- es]
    refine fin (r:=s.sr) b (Zo _) ?_
    rw[es]
    exact if_neg λ z=>c (by rw[z])
 ·refine⟨(λ z=>by cases z),λ _=>xnil (fin (r:=s.sr) b (Zo _) ?_)⟩
  cases es:s.sr with
  | nil=>rfl
  | cons a r=>rw[es] at c;exact absurd (by simp) c
theorem Jsf {α β:Type}{f:α->β}:∀(l:List α)(j:Nat),(l.map f).eraseIdx j=(l.eraseIdx j).map f
 | [],_=>rfl
 | _::_,0=>rfl
 | a::l,j+1=>congrArg (f a:: ·) (Jsf l j)
theorem Jrk {wa:List Nat}{p j:Nat}(e:(wa.map λ n:Nat=>(n:Int)).findIdx? (· ==(p:Int))=Za j):wa.eraseIdx j=wa.erase p:=by
 rw[List.findIdx?_map] at e
 have e:wa.findIdx? (· ==p)=Za j:=by
  rw[<- e]
  congr 1
  funext x
  show(x==p)=((x:Int)==(p:Int))
  rw[Zcn,beq_iff_eq,beq_iff_eq]
  omega
 rw[List.erase_eq_eraseIdx,show List.idxOf? p wa=Za j from e]
theorem J23 (g:Bg h0 kind rs cs O R)(w:Wf cs s)(ne:¬(s.lr=[]/\s.wa=[]))(sl:s.sr.length<100000)(b:Bn h0 h B O R D L W S s):WR (Jbr (k+6) [.ref B] h) λ v h'=>v=.non/\Bn h0 h' B O R D L W S (QY kind rs cs s):=by
 have ll:(s.lr++s.wa).length<=cs.length:=by
  have:=w.nd.length_le_of_subset (l₂:=ZN cs.length) λ p hp=>Zal.mpr (w.mem p hp)
  rwa [Zbm] at this
 rw[Zt] at ll
 have cn:=g.n
 have w1:=w.let
 have n1:=Jsb (cs:=cs) ne
 rw[Jio]
 refine xfin (xseq (Qs (Vz rfl b.b bn1 (Jho _) (Je rfl (WR.mono (J3h (k:=k+2) g (λ p hp=>w.mem p (Zat _ hp)) (by omega) ne b) ?_)))))
 rintro _ h1 ⟨rfl,b1⟩
 have o1:=g.o.kp b1.x.kp
 unfold QY
 have hsl:(letM cs s).sr.length<100000:=sl
 generalize letM cs s=s1 at *
 refine xseq (xset (Jpo o1 (fldE rfl b1.b bf0) (by rw[show ∀(a b c:E1)(σ:ISt),Jb a (Jb b (Jb c Jd)) σ h1=(a σ h1).bind λ x h1=>((Jb b (Jb c Jd)) σ h1).bind λ xs h2=>.ok (x::xs) h2 from λ _ _ _ _=>rfl,fldE rfl b1.b bf1];exact congrArg (λ r=>Res.bind r _) (arg2 (fldE rfl b1.b bf4) (fldE rfl b1.b bf2))) (WR.mono (Jyu (k:=k) (b1.x.get g.p1) o1 g.l6 g.c (b1.x.get g.r) b1.w b1.d w1.ld n1 λ p hp=>w1.mem p (Zn _ hp)) ?_)))
 rintro _ h2 ⟨p,hp,rfl,lm,x2⟩
 have ep:=VM.eq ⟨hp,lm⟩
 have lp:=w1.mem p (Zn _ hp)
 have ld:=w1.ld
 have b2:=b1.ex x2
 refine xseq (xset (Vz rfl b2.b bn2 (Jfi _) (Je (arg1 rfl) (WR.mono (J4e (k:=k+2) g (λ q hq=>w1.mem q (Zat _ hq)) b2 lp ld) ?_))))
 rintro _ h3 ⟨rfl,x3⟩
 have b3:=b2.ex x3
 unfold goM
 rw[ep]
 generalize Qb rs cs s1 p=n
 refine xseq (Qs (Vz rfl b3.b bn3 (Jjw _) (Je (arg2 rfl (addE (fldE rfl b3.b bf5) rfl)) (WR.mono (J4d (k:=k+4) b3 hsl) ?_))))
 rintro _ h4 ⟨rfl,b4⟩
 refine xseq (J4o rfl b4.b bf5 rfl b4.b (by show(7:Nat)<1000;decide) ?_)
 rw[bft]
 have b5:Bn h0 _ B O R D L W S ⟨s1.ds,s1.lr,s1.wa,s1.t+n,Vt p s1.t (s1.t+n) s1.sr⟩:=b4.setT (s1.t+n)
 refine xseq (J2l (fldE rfl b5.b bf2) rfl b5.d (Jxf (by show p<s1.ds.length;omega)) (by omega) rfl b5.d (j:=p) (by rw[Zi];simp[ixN];omega) ?_)
 have b6:Bn h0 _ B O R D L W S ⟨s1.ds.set p (s1.ds.getD p 0+n),s1.lr,s1.wa,s1.t+n,Vt p s1.t (s1.t+n) s1.sr⟩:=b5.setD (s1.ds.set p (s1.ds.getD p 0+n))
 rw[<- List.map_set]
 refine xifd (eqE (ixlE (fldE rfl b6.b bf2) rfl b6.d (Jxf (by rw[Zbo];omega))) (ixtE (ixlE (fldE rfl b6.b bf1) rfl (b6.x.get g.r) (Qp lp)) rfl Qf)) (λ c=>?_) λ c=>?_
 ·rw[Ys,if_pos ⟨rfl,by omega⟩] at c
  have eN:s1.wa.map nI=(s1.wa.map λ n:Nat=>(n:Int)).map .int:=by rw[Za8];rfl
  have gw:=b6.w
  obtain⟨j,hj⟩:∃j,(s1.wa.map λ n:Nat=>(n:Int)).findIdx? (· ==(p:Int))=Za j:=by
   cases z:(s1.wa.map λ n:Nat=>(n:Int)).findIdx? (· ==(p:Int)) with
   | none =>
    have:=Zdu.mp z p (ZC.mpr ⟨p,hp,rfl⟩)
    simp at this
   | some j=>exact⟨j,rfl⟩
  refine Qs (QP (fldE rfl b6.b bf4) gw Jq4 (Je (arg1 rfl) (xrem (ns:=s1.wa.map λ n:Nat=>(n:Int)) (by rw[<- eN];exact gw) hj ⟨rfl,?_⟩)))
  have b7:=b6.setW (s1.wa.erase p)
  unfold doM
  rw[if_pos (show _=lnN cs p from c),<-eN,Jsf,Jrk hj]
  exact b7
 ·rw[Ys,if_pos ⟨rfl,by omega⟩] at c
  refine xnil ⟨rfl,?_⟩
  unfold doM
  rw[if_neg (show ¬_=lnN cs p from c)]
  exact b6
end
end
section
seal L4.run
section
variable {O R D L W S:Nat}
theorem bp0:putI "order" (.ref O) ([]:List (Str×IV))=(bfs O 0 0 0 0 0 0).take 1:=by kernel_rfl
theorem bp1:putI "row" (.ref R) ((bfs O 0 0 0 0 0 0).take 1)=(bfs O R 0 0 0 0 0).take 2:=by kernel_rfl
theorem bp2:putI "dones" (.ref D) ((bfs O R 0 0 0 0 0).take 2)=(bfs O R D 0 0 0 0).take 3:=by kernel_rfl
theorem bp3:putI "later" (.ref L) ((bfs O R D 0 0 0 0).take 3)=(bfs O R D L 0 0 0).take 4:=by kernel_rfl
theorem bp4:putI "waiting" (.ref W) ((bfs O R D L 0 0 0).take 4)=(bfs O R D L W 0 0).take 5:=by kernel_rfl
theorem bp5:putI "turn" (.int 0) ((bfs O R D L W 0 0).take 5)=(bfs O R D L W 0 0).take 6:=by kernel_rfl
theorem bp6:putI "stretches" (.ref S) ((bfs O R D L W 0 0).take 6)=bfs O R D L W 0 S:=by kernel_rfl
end
theorem Jr4:∀{ys:List IV}{ks:List Int},(∀y∈ys,mk y h=.ok (.int (kf y)) h)->QE mk ys ks h=.ok (ks++ys.map kf) h
 | [],ks,_=>by simp[QE]
 | y::ys,ks,q=>by
  unfold QE
  rw[q y (by simp)]
  show QE mk ys (ks++[kf y]) h=_
  rw[Jr4 λ z hz=>q z (Zp _ hz)]
  simp
theorem Jwl:∀p∈lr0 cs,p<cs.length:=λ p hp=>by
 obtain⟨i,hi,rfl⟩:=ZC.mp hp
 have:=Y0 _ i hi
 omega
theorem J03 (cs:List Cm):(ordK (cs.map rdC).reverse cs.length).map (λ i=>(rngI 0 (cs.length:Int)).reverse.getD i .non)=(lr0 cs).map nI:=by
 unfold lr0
 rw[Za8]
 refine List.map_congr_left λ i hi=>?_
 have li:=Y0 _ i hi
 rw[XM]
 have l2:i<(((ZN cs.length).map λ k=>((k:Nat):Int)).map IV.int).reverse.length:=by simpa using li
 show List.getD (((ZN (Zc1 (cs.length:Int))).map λ k=>((k:Nat):Int)).map IV.int).reverse i .non=IV.int ((cs.length-1-i:Nat):Int)
 rw[ZaF,Zk,Zb l2,ZcV]
 simp
theorem Jj7 (cs:List Cm):(lr0 cs).Perm (ZN cs.length):=by
 by_cases n0:cs.length=0
 ·unfold lr0
  rw[n0,Jg0]
  exact .refl _
 have:=(Jh5 (cs.map rdC).reverse (Nat.pos_of_ne_zero n0)).map λ i=>cs.length-1-i
 refine this.trans ?_
 have e:(ZN cs.length).map (λ i=>cs.length-1-i)=(ZN cs.length).reverse:=by
  refine Zbg (by simp) λ i h1 h2=>?_
  simp[ZcV]
 rw[e]
 exact List.reverse_perm _
theorem Jyh (cs:List Cm):(lr0 cs).Pairwise λ p q=>rdN cs p<=rdN cs q:=by
 unfold lr0
 rw[Zdv]
 refine(Jut (cs.map rdC).reverse cs.length).imp_of_mem λ {i j} hi hj h=>?_
 have li:=Y0 _ i hi
 have lj:=Y0 _ j hj
 have e:∀i,i<cs.length->(cs.map rdC).reverse.getD i 0=rdN cs (cs.length-1-i):=λ i li=>by
  have l2:i<(cs.map rdC).reverse.length:=by simpa using li
  unfold rdN
  rw[Zk,Zb l2,ZcV,Zk,Zb (show cs.length-1-i<cs.length by omega)]
  simp
 rwa [e i li,e j lj] at h
theorem wf0 (l1:∀c∈cs,1<=c.len):Wf cs (s0 cs):=by
 have zr:∀p,((s0 cs).ds.getD p 0:Int)=0:=λ p=>by
  show(cs.map λ _=>(0:Int)).getD p 0=0
  rw[Zk,Zv]
  cases cs[p]?<;>rfl
 have pm:=Jj7 cs
 refine⟨by simp[s0],λ p hp=>?_,?_,Jyh cs,λ p hp=>?_,λ p lp hp=>?_,λ p hp=>zr p,λ p hp=>?_⟩
 ·rw[show(s0 cs).lr++(s0 cs).wa=lr0 cs from Zaw _] at hp
  exact Jwl p hp
 ·rw[show(s0 cs).lr++(s0 cs).wa=lr0 cs from Zaw _]
  exact pm.nodup_iff.mpr ZdC
 ·rw[show(s0 cs).lr++(s0 cs).wa=lr0 cs from Zaw _] at hp
  have lp:=Jwl p hp
  rw[zr]
  have:1<=lnN cs p:=l1 _ (by rw[Zk,Zb lp];exact Z3 lp)
  omega
 ·rw[show(s0 cs).lr++(s0 cs).wa=lr0 cs from Zaw _] at hp
  exact absurd (pm.mem_iff.mpr (Zal.mpr lp)) hp
 ·cases hp
theorem Wf.step (w:Wf cs s)(ne:¬(s.lr=[]/\s.wa=[])):Wf cs (QY kind rs cs s)/\mea rs cs (QY kind rs cs s)<mea rs cs s:=by
 have w1:=w.let
 have gt:=Jwj w
 have le:=Jyj rs cs s
 obtain⟨p,ip⟩:=Jnm (kind:=kind) (rs:=rs) (cs:=cs) (ds:=(letM cs s).ds) (Jsb (cs:=cs) ne)
 unfold QY goM
 rw[ip.eq]
 obtain⟨a,b⟩:=Jif (rs:=rs) gt (w1.z p (Zn _ ip.1)).2
 have sl:=Jnw (hsN rs cs p) ((letM cs s).ds.getD p 0) (lnN cs p)
 exact⟨w1.do ip.1 a (by omega),ZK (J06 w1 gt ip.1) le⟩
theorem Jvk (p:Nat)(t u:Int)(sr:List (Nat×Int×Int)):(Vt p t u sr).length<=sr.length+1:=by
 unfold Vt
 split
 ·simp
 ·split<;>simp
theorem Joq {s:Bs}(h:s.lr=[]/\s.wa=[]):runM kind rs cs m s=s:=by
 cases m with
 | zero=>rfl
 | succ m=>exact if_pos h
theorem mea0 (l6:∀r∈rs,r.2.length<=6)(hc:∀c∈cs,c.at_<rs.length):mea rs cs (s0 cs)<=8*cs.length:=by
 have e1:((ZN cs.length).map (VT rs cs (s0 cs).ds)).sum<=((ZN cs.length).map λ _=>6).sum:=Jou λ p hp=>by
  have lp:=Zal.mp hp
  have ca:(cs.getD p cd).at_<rs.length:=hc _ (by rw[Zk,Zb lp];exact Z3 lp)
  have:=l6 _ (Z3 ca)
  refine ZY (Zb0 _ _) ?_
  unfold hsN
  rw[Xm ca]
  exact this
 have e2:=Zb0 (λ p=>decide ((s0 cs).t<rdN cs p)) (s0 cs).lr
 have e3:(s0 cs).lr.length=cs.length:=by have:=(Jj7 cs).length_eq;rwa [Zbm] at this
 have e4:((s0 cs).lr++(s0 cs).wa).length=cs.length:=by rw[show(s0 cs).lr++(s0 cs).wa=(s0 cs).lr from Zaw _];exact e3
 rw[List.map_const',List.sum_replicate_nat,Zbm] at e1
 unfold mea
 omega
theorem ds0 (cs:List Cm)(p:Nat):(s0 cs).ds.getD p 0=0:=by
 show(cs.map λ _=>(0:Int)).getD p 0=0
 rw[Zk,Zv]
 cases cs[p]?<;>rfl
def lenF:IV->IV
 | .tup [_,_,_,d]=>d
 | _=>.non
section
variable {k:Nat}{h:IH}{kind:Int}{rs:List RH}{cs:List Cm}{O R:Nat}
theorem Jyb (g:Bg h kind rs cs O R)(t0:h[1]?=Za (.tab "Bench.__init__"))(n64:cs.length<64):WR (Jcm (k+2) [.ref h.length,.ref O,.ref R] (h++[.ins "Bench" []])) λ v h'=>v=.non/\∃D L W S,Bn h h' h.length O R D L W S (s0 cs):=by
 have hb:=J2
 rw[Jjz]
 refine xfin (xseq (V0 rfl rfl Jk (by decide) ?_))
 rw[bp0,VH]
 refine xseq (V0 rfl rfl Jk (by show(1:Nat)<1000;decide) ?_)
 rw[bp1,VH]
 have x1:Ex h (h++[.ins "Bench" ((bfs O R 0 0 0 0 0).take 2)]):=.one _ _
 have g1:(h++[IX.ins "Bench" ((bfs O R 0 0 0 0 0).take 2)])[h.length]?=Za (.ins "Bench" ((bfs O R 0 0 0 0 0).take 2)):=Jk
 generalize h++[IX.ins "Bench" ((bfs O R 0 0 0 0 0).take 2)]=h1 at x1 g1
 refine xseq ?_
 rw[Xf]
 refine WR.mono (Qh (h:=h1) (xs:=cs.map tupC) (chk:=λ h'=>h'[R]?=Za (.lst (cs.map tupC))) (f:=λ _=>.int 0) ?_ (by rw[Zi];omega) (λ h2 q=>q _ _ (x1.get g.r)) λ v hv h2 q=>Je rfl ⟨rfl,.refl _⟩) ?_
 ·rw[JT]
  exact Je rfl ((JK _).mpr ⟨_,x1.get g.r,rfl,rfl,rfl⟩)
 rintro _ _ ⟨rfl,gg,rfl⟩
 have lt1:=JC g1
 refine Je rfl ⟨_,_,_,rfl,grow g1,by show(2:Nat)<1000;decide,?_⟩
 rw[bp2]
 have x2:=Vl (i:=h.length) (o:=.ins "Bench" ((bfs O R h1.length 0 0 0 0).take 3)) (x1.trans (Ex.cons h1 (.lst ((cs.map tupC).map λ _=>.int 0)) gg)) (Zo _)
 have g2:=QK (o':=.ins "Bench" ((bfs O R h1.length 0 0 0 0).take 3)) (grow g1 (g:=.lst ((cs.map tupC).map λ _=>.int 0)::gg))
 have d2:=JA (i:=h.length) (o':=.ins "Bench" ((bfs O R h1.length 0 0 0 0).take 3)) (Jz (h:=h1) (o:=.lst ((cs.map tupC).map λ _=>.int 0)) (g:=gg)) (by omega)
 generalize h1.length=D at *
 generalize (h1++IX.lst ((cs.map tupC).map λ _=>.int 0)::gg).set h.length (.ins "Bench" ((bfs O R D 0 0 0 0).take 3))=h2 at x2 g2 d2
 have ks:QE (λ v h'=>X3 (k+1) [Za v,Za (.ref R)] h') (rngI 0 (cs.length:Int)) [] h2=.ok (cs.map rdC) h2:=by
  have:=Jr4 (mk:=λ v h'=>X3 (k+1) [Za v,Za (.ref R)] h') (kf:=λ v=>match v with|.int p=>rdN cs p.toNat|_=>0) (h:=h2) (ys:=rngI 0 (cs.length:Int)) (ks:=[]) λ y hy=>by
   rw[XM,ZaF,Za8] at hy
   obtain⟨p,hp,rfl⟩:=ZC.mp hy
   have lp:=Zal.mp hp
   show X3 (k+1) [Za (nI p),Za (.ref R)] h2=.ok (.int (rdN cs (Zc1 (p:Int)))) h2
   rw[ZaF]
   exact JN (arg1 (ixlE rfl rfl (x2.get g.r) (Qp lp))) Joo
  rw[this,Zag,XM,ZaF,Za8,Za8]
  congr 1
  refine Zbg (by simp) λ i h1 h2=>?_
  have li:i<cs.length:=by simpa using h2
  simp only[ZJ,ZbM,Function.comp,ZaF,rdN]
  rw[Zk,Zb li]
  rfl
 have es:Yo "Bench.__init__" 1 [2] (Jb (eCB (on1 lenI) (Jb (Ja 2) Jd)) Jd) (X3 (k+1)) [Za (.ref h.length),Za (.ref O),Za (.ref R)] h2=.ok (.ref h2.length) (h2++[.lst ((lr0 cs).reverse.map nI)]):=by
  unfold Yo
  rw[arg1 (lenE rfl (x2.get g.r)),Zi]
  show(match [IV.int (cs.length:Int)],h2[1]? with|[.int n],Za (.tab q')=>_|_,_=>_)=_
  rw[x2.get t0]
  show(if _ then _ else _)=_
  rw[if_pos ⟨rfl,by omega,by omega⟩]
  show(QE (λ v h'=>X3 (k+1) [Za v,Za (.ref R)] h') (rngI 0 (cs.length:Int)) [] h2).bind _=_
  rw[ks]
  show Y4 Zg (rngI 0 (cs.length:Int)).reverse (cs.map rdC).reverse h2=_
  unfold Y4
  rw[show(rngI 0 (cs.length:Int)).reverse.length=cs.length by rw[Zcf,XM];simp,J03,List.map_reverse]
  rfl
 refine xseq (V0 es rfl (grow g2) (by show(3:Nat)<1000;decide) ?_)
 rw[bp3]
 have lt2:=JC d2
 have x3:=Vl (i:=h.length) (o:=.ins "Bench" ((bfs O R D h2.length 0 0 0).take 4)) (x2.trans (Ex.one h2 (.lst ((lr0 cs).reverse.map nI)))) (Zo _)
 have g3:=QK (o':=.ins "Bench" ((bfs O R D h2.length 0 0 0).take 4)) (grow g2 (g:=[.lst ((lr0 cs).reverse.map nI)]))
 have d3:=JA (i:=h.length) (o':=.ins "Bench" ((bfs O R D h2.length 0 0 0).take 4)) (grow d2 (g:=[.lst ((lr0 cs).reverse.map nI)])) (by omega)
 have l3:=JA (i:=h.length) (o':=.ins "Bench" ((bfs O R D h2.length 0 0 0).take 4)) (Jk (h:=h2) (o:=.lst ((lr0 cs).reverse.map nI))) (by omega)
 generalize h2.length=L at *
 generalize (h2++[IX.lst ((lr0 cs).reverse.map nI)]).set h.length (.ins "Bench" ((bfs O R D L 0 0 0).take 4))=h3 at x3 g3 d3 l3
 have lt3:=JC l3
 refine xseq ?_
 rw[Xf]
 refine xlst (Je rfl ⟨ZX _,Je rfl ⟨_,_,_,rfl,grow g3,by show(4:Nat)<1000;decide,?_⟩⟩)
 rw[bp4]
 refine xseq (V0 rfl rfl (QK (grow g3)) (by show(5:Nat)<1000;decide) ?_)
 rw[bp5,ZdN]
 unfold Jdm
 rw[Xf]
 refine xlst (Je rfl ⟨ZX _,Je rfl ⟨_,_,_,rfl,grow (QK (grow g3)),by show(6:Nat)<1000;decide,rfl,?_⟩⟩)
 rw[bp6]
 have sw:=Jk (h:=h3) (o:=.lst [])
 have lw:=JC sw
 rw[Zt,Zac] at lw
 have ln:(List.set (h3++[IX.lst []]) h.length (.ins "Bench" ((bfs O R D L h3.length 0 0).take 6))).length=h3.length+1:=by rw[Zbo,Zt,Zac]
 refine⟨D,L,h3.length,_,Vl ((Vl (x3.trans (.one _ _)) (Zo _)).trans (.one _ _)) (Zo _),⟨Zo _,by omega,by omega,by omega,by omega⟩,QK (grow (QK (grow g3))),JA (grow (JA (grow ?_) (by omega))) (by omega),JA (grow (JA (grow l3) (by omega))) (by omega),JA (grow (JA sw (by omega))) (by omega),JA Jk (by omega)⟩
 rw[d3]
 simp[s0]
theorem J1t (g:Bg h kind rs cs O R)(t0:h[1]?=Za (.tab "Bench.__init__"))(L:Legal rs cs)(n64:cs.length<64) :
  WR (Jxb (k+7) [.ref O,.ref R] h) λ v h'=>∃j,v=.ref j/\h.length<=j/\h'[j]?=Za (.lst ((finM kind rs cs).sr.reverse.map tupS))/\Ex h h':=by
 obtain⟨Du,du,fd⟩:=Jsm g.o
 have w0:Wf cs (s0 cs):=wf0 λ c hc=>(L.ok c hc).n1
 rw[J0b]
 refine xfin (xseq (Qs (xb (Je (arg2 (fd _ _ rfl) rfl) (WR.mono (Jz0 (k:=k+1) du g.r L g.n) ?_)))))
 rintro _ h1 ⟨rfl,x1⟩
 have g1:Bg h1 kind rs cs O R:=⟨g.o.kp x1.kp,x1.get g.r,g.c,g.l6,x1.get g.p1,g.n⟩
 refine xseq (xset ?_)
 rw[Vx]
 refine Je (arg2 rfl rfl) (WR.mono (Jyb (k:=k+4) g1 (x1.get t0) n64) ?_)
 rintro _ h2 ⟨rfl,D,La,W,S,b0⟩
 refine⟨rfl,xseq ?_⟩
 have m0:=mea0 g.l6 g.c
 have cn:=g.n
 refine Jpn (λ m σ h'=>∃s,σ=[Za (.ref O),Za (.ref R),Za (.ref h1.length)]/\Bn h1 h' h1.length O R D La W S s/\Wf cs s/\mea rs cs s<=m/\s.sr.length+m<=8*cs.length/\runM kind rs cs m s=finM kind rs cs) ?_ (show 8*cs.length<1000000 by omega) ⟨s0 cs,rfl,b0,w0,m0,by simp[s0],rfl⟩
 rintro m _ h3 ⟨s,rfl,b,w,lm,ls,er⟩
 refine Je (gtE (addE (lenE (fldE rfl b.b bf3) b.l) (lenE (fldE rfl b.b bf4) b.w)) rfl) (xdec (λ c=>?_) λ c=>?_)
 ·have ne:¬(s.lr=[]/\s.wa=[]):=λ ⟨a,z⟩=>by rw[a,z] at c;exact absurd c (by simp)
  obtain⟨w1,lt⟩:=w.step (kind:=kind) (rs:=rs) ne
  cases m with
  | zero=>omega
  | succ m =>
   refine⟨m,rfl,Qs (Vz rfl b.b bn4 (Jil _) (Je rfl (WR.mono (J23 (k:=k) g1 w ne (by omega) b) ?_)))⟩
   rintro _ h4 ⟨rfl,b4⟩
   refine⟨_,rfl,b4,w1,by omega,?_,?_⟩
   ·have:=Jvk (XH kind rs cs (letM cs s).ds (letM cs s).wa) (letM cs s).t ((letM cs s).t+Qb rs cs (letM cs s) (XH kind rs cs (letM cs s).ds (letM cs s).wa)) s.sr
    have:(QY kind rs cs s).sr.length<=s.sr.length+1:=this
    omega
   ·rw[<- er]
    exact(if_neg ne).symm
 ·have ne:s.lr=[]/\s.wa=[]:=by
   simp only[Zi,Zcf] at c
   exact⟨Zc2.mp (by omega),Zc2.mp (by omega)⟩
  rw[Joq ne] at er
  refine xret (Je (fldE rfl b.b bf6) ⟨S,rfl,?_,?_,x1.trans b.x⟩)
  ·have:=b.ap
   have:=JC b0.b
   obtain⟨gg,rfl⟩:=x1
   rw[Zt] at *
   omega
  ·rw[<- er]
   exact b.s
end
end
def gI (v:IV):ZcM:=match v with
 | .int x=>.int x
 | .tup xs=>.tuple (xs.map λ v=>match v with|.int x=>.int x|_=>.none)
 | _=>.none
theorem Juk (ns:List Int):ZP (ns.map PyData.int)=Zg:=by
 induction ns with
 | nil=>rfl
 | cons n ns ih=>rw[Z4,ZP,ih];rfl
def Pl (v:IV):Prop:=(∃x,v=.int x)∨∃ns:List Int,v=.tup (ns.map .int)
section
variable {k:Nat}{h:IH}
theorem Jwo (n:Nat):∀ns:List Int,(ns.map IV.int).mapM (toD h (n+1))=Za (ns.map PyData.int)
 | []=>rfl
 | x::ns=>by
  rw[Z4,ZbF,Jwo n ns]
  rfl
theorem Jxx (ns:List Int):gI (.tup (ns.map .int))=.tuple (ns.map PyData.int):=by
 show Zdd _=_
 rw[Za8]
 rfl
theorem J4s (n:Nat)(q:Pl v):toD h (n+2) v=Za (gI v)/\(gI v).canLay0=Zg:=by
 rcases q with⟨x,rfl⟩|⟨ns,rfl⟩
 ·exact⟨rfl,rfl⟩
 ·rw[Jxx]
  refine⟨?_,by rw[Zad];exact Juk ns⟩
  show((ns.map IV.int).mapM (toD h (n+1))).map Zdd=_
  rw[Jwo]
  rfl
theorem Jxq (hi:h[i]?=Za (.lst xs))(q:∀x∈xs,Pl x):toD h (n+3) (.ref i)=Za (.list (xs.map gI)):=by
 rw[Xv hi,Jnj (g:=gI) λ x hx=>(J4s n (q x hx)).1]
 rfl
theorem Jr8 {xs:List IV}(q:∀x∈xs,Pl x):ZP (xs.map gI)=Zg:=Jwi λ x hx=>(J4s (h:=[]) 0 (q x hx)).2
theorem Jxu {i j:Nat}{xs:List IV}(hi:h[i]?=Za (.lst xs))(hj:h[j]?=Za (.lst xs))(q:∀x∈xs,Pl x):cEq (.ref i) (.ref j) h=.ok (.bl Zg) h:=by
 have l:(Zcy (xs.map gI)).canLay0=Zg:=by rw[Zad];exact Jr8 q
 have e3:Qv (.ref i) (.ref j) h=Za Zg:=by
  unfold Qv
  rw[Jxq hi q,Jxq hj q]
  dsimp only
  rw[if_pos ⟨l,l⟩,Joe _ l]
 unfold cEq
 rw[show Vr (.ref i) (.ref j)=Zc from rfl]
 dsimp only
 rw[e3]
end
abbrev St3:=Nat×Int×Int
def sumP (p:Nat)(l:List St3):Int:=(l.map λ a=>if a.1=p then a.2.2-a.2.1 else 0).sum
theorem XV:sumP p (a::l)=(if a.1=p then a.2.2-a.2.1 else 0)+sumP p l:=by simp[sumP]
theorem Jvi:sumP p (l++m)=sumP p l+sumP p m:=by simp[sumP]
theorem Jkl:∀{l:List St3},sumP p l.reverse=sumP p l
 | []=>rfl
 | a::l=>by
  rw[Zb3,Jvi,Jkl,XV,XV]
  show _+(_+0)=_
  omega
theorem Js2 (hx:x∈hs)(l:d<x.2.2):QL hs d len<=x.2.2:=by
 have m:x.2.2∈(hs.filter λ a=>decide (d<a.2.2)).map (·.2.2):=ZC.mpr ⟨x,Zbn.mpr ⟨hx,decide_eq_true l⟩,rfl⟩
 obtain⟨i,hi,e⟩:=Zax.mp m
 have b:=Jq5 (λ i=>(Qq hs d len).getD i 0) (Qq hs d len).length (i+1) (by simpa [Qq] using hi)
 have q:(Qq hs d len).getD (i+1) 0=x.2.2:=by
  rw[<- e,Zk]
  show(((hs.filter λ a=>decide (d<a.2.2)).map (·.2.2))[i]?).getD 0=_
  rw[Zb hi]
  rfl
 rw[<- q]
 exact b
theorem Jvl {s:Bs}(w:s.lr.Pairwise λ p q=>rdN cs p<=rdN cs q)(hq:q∈s.lr):Qb rs cs s p<=rdN cs q-s.t:=by
 unfold Qb
 cases e:s.lr with
 | nil=>rw[e] at hq;cases hq
 | cons a r =>
  rw[e] at hq w
  have:rdN cs a<=rdN cs q:=by
   rcases Z6.mp hq with rfl|hq
   ·exact ZaB _
   ·exact(Zcu.mp w).1 q hq
  dsimp only
  split<;>omega
def keyD (kind:Int)(rs:List RH)(cs:List Cm)(n:Nat)(d:Int):List Int:=[Vg kind rs (cs.getD n cd) d,if QS kind rs (cs.getD n cd) d=Zg then 0 else 1,(n:Int)]
def Xo:List St3->Int
 | []=>0
 | a::_=>a.2.2
def Cp (rs:List RH)(cs:List Cm)(p:Nat)(b d t:Int):Prop:=t=b∨(∃c,c<cs.length/\rdN cs c=t)∨∃x∈hsN rs cs p,x.2.2=d+(t-b)
structure Ok1 (kind:Int)(rs:List RH)(cs:List Cm)(p:Nat)(b u:Int)(r:List St3):Prop where
 la:Xo r<=b
 rd:rdN cs p<=b
 id:Xo r<b->∀q,q<cs.length->rdN cs q<b->sumP q r=lnN cs q
 fi:∀t,b<=t->t<u->Cp rs cs p b (sumP p r) t->∀q,q<cs.length->q≠p->rdN cs q<=t->sumP q r<lnN cs q->ltL (keyD kind rs cs q (sumP q r)) (keyD kind rs cs p (sumP p r+(t-b)))=Zj
def Oks (kind:Int)(rs:List RH)(cs:List Cm):List St3->Prop
 | []=>True
 | a::r=>(a.1<cs.length/\a.2.1<a.2.2/\sumP a.1 r+(a.2.2-a.2.1)<=lnN cs a.1/\Ok1 kind rs cs a.1 a.2.1 a.2.2 r)/\Oks kind rs cs r
structure Sv (kind:Int)(rs:List RH)(cs:List Cm)(s:Bs):Prop where
 tl:Xo s.sr=s.t
 ea:∀a∈s.sr,0<s.ds.getD a.1 0
 sm:∀p,p<cs.length->sumP p s.sr=s.ds.getD p 0
 nl:∀q,q<cs.length->q∉s.lr->rdN cs q<=s.t
 ok:Oks kind rs cs s.sr
theorem Sv.step (w:Wf cs s)(ne:¬(s.lr=[]/\s.wa=[]))(v:Sv kind rs cs s):Sv kind rs cs (QY kind rs cs s):=by
 have w1:=w.let
 have gt:=Jwj w
 have tg:=Js4 cs s
 obtain⟨p,ip⟩:=Jnm (kind:=kind) (rs:=rs) (cs:=cs) (ds:=(letM cs s).ds) (Jsb (cs:=cs) ne)
 have hp:=ip.1
 unfold QY goM
 rw[ip.eq]
 have zp:=w1.z p (Zn _ hp)
 have lp:=w1.mem p (Zn _ hp)
 have rp:rdN cs p<=tIn cs s:=w1.rw p hp
 obtain⟨n0,n1⟩:=Jif (rs:=rs) gt zp.2
 have n2:=λ q hq=>Jvl (rs:=rs) (p:=p) w1.srt (q:=q) hq
 have sl:=Jnw (hsN rs cs p) (s.ds.getD p 0) (lnN cs p)
 generalize Qb rs cs (letM cs s) p=n at n0 n1 n2
 have n1:s.ds.getD p 0+n<=QL (hsN rs cs p) (s.ds.getD p 0) (lnN cs p):=n1
 have n2:∀q∈(letM cs s).lr,n<=rdN cs q-tIn cs s:=n2
 have zp:0<=s.ds.getD p 0/\_:=zp
 have ld:=w.ld
 have gd:∀q,(doM rs cs (letM cs s) p n).ds.getD q 0=if p=q then s.ds.getD p 0+n else s.ds.getD q 0:=λ q=>by
  show(s.ds.set p _).getD q 0=_
  rw[Ys]
  by_cases e:p=q
  ·subst e;rw[if_pos ⟨rfl,by omega⟩,if_pos rfl];rfl
  ·rw[if_neg λ z=>e z.1,if_neg e]
 obtain⟨c,e1,e2,e3,_⟩:=XJ cs (tIn cs s) s.lr s.wa
 -- who is not among those to come is ready
 have nl:∀q,q<cs.length->q∉(letM cs s).lr->rdN cs q<=tIn cs s:=λ q lq hq=>by
  by_cases h:q∈s.lr
  ·rw[e1] at h
   rcases ZM.mp h with h|h
   ·exact e3 q h
   ·exact absurd h hq
  ·exact Zb6 (v.nl q lq h) tg
 have wait:∀q,q<cs.length->rdN cs q<=tIn cs s->s.ds.getD q 0<lnN cs q->q∈(letM cs s).wa:=λ q lq rq dq=>by
  by_cases m:q∈(letM cs s).lr++(letM cs s).wa
  ·rcases ZM.mp m with m|m
   ·have:tIn cs s<rdN cs q:=gt q m
    omega
   ·exact m
  ·have:s.ds.getD q 0=_:=w1.dn q lq m
   omega
 have same:∀a r,s.sr=a::r->a.1=p->a.2.2=tIn cs s:=λ a r e z=>by
  have h1:=v.tl
  rw[e] at h1
  have h2:=v.ea a (by rw[e];simp)
  rw[z] at h2
  rw[show a.2.2=s.t from h1]
  unfold tIn
  split
  ·rename_i ew el
   have hp:p∈(pops cs (tIn cs s) s.lr s.wa).2:=hp
   rw[e2,ew,Zag] at hp
   have:=w.z0 p (by rw[e1];exact Zat _ hp)
   omega
  ·rfl
 have sm:=v.sm
 have sp:=sm p lp
 obtain⟨b,r,es,sub,b1,s1,s2,o1,o2⟩:∃b r,Vt p (tIn cs s) (tIn cs s+n) s.sr=(p,b,tIn cs s+n)::r/\(∀c∈r,c∈s.sr)/\b<=tIn cs s/\sumP p r+(tIn cs s-b)=s.ds.getD p 0/\(∀q,q<cs.length->p≠q->sumP q r=s.ds.getD q 0)/\Ok1 kind rs cs p b (tIn cs s) r/\Oks kind rs cs r:=by
  have ok:=v.ok
  have un:Ok1 kind rs cs p (tIn cs s) (tIn cs s) s.sr:=by
   refine⟨by rw[v.tl];exact tg,rp,λ l q lq rq=>?_,λ t h1 h2=>by omega⟩
   rw[v.tl] at l
   rw[sm q lq]
   by_cases m:q∈s.lr++s.wa
   ·unfold tIn at l rq
    split at l
    ·rename_i x xs ew el
     rw[ew,Zaw] at m
     have srt:=w.srt
     rw[el] at srt m rq
     have:rdN cs x<=rdN cs q:=by
      rcases Z6.mp m with rfl|m
      ·exact ZaB _
      ·exact(Zcu.mp srt).1 q m
     simp only[ew] at rq
     split at rq<;>omega
    ·exact absurd l (Int.lt_irrefl _)
   ·exact w.dn q lq m
  cases e:s.sr with
  | nil=>exact⟨_,[],rfl,λ _ h=>h,ZaB _,by rw[<- sp,e];omega,λ q lq _=>by rw[<- sm q lq,e],e▸un,trivial⟩
  | cons a r =>
   rw[e] at ok
   by_cases z:a.1=p
   ·have sa:=same a r e z
    have ha:=ok.1.2.1
    have o:=ok.1.2.2.2
    rw[z,sa] at o
    refine⟨a.2.1,r,if_pos z,λ _ h=>Zp _ h,by omega,?_,λ q lq nq=>?_,o,ok.2⟩
    ·rw[<- sp,e,XV,if_pos z];omega
    ·rw[<- sm q lq,e,XV,if_neg (by rw[z];exact nq)];omega
   ·exact⟨_,a::r,if_neg z,λ _ h=>h,ZaB _,by rw[<- sp,e];omega,λ q lq _=>by rw[<- sm q lq,e],e▸un,ok⟩
 have es:(doM rs cs (letM cs s) p n).sr=(p,b,tIn cs s+n)::r:=es
 refine⟨by rw[es];rfl,λ a ha=>?_,λ q lq=>?_,λ q lq hq=>?_,?_⟩
 ·rw[es] at ha
  rw[gd]
  rcases Z6.mp ha with rfl|ha
  ·rw[if_pos rfl];omega
  ·have:=v.ea a (sub a ha)
   split<;>omega
 ·rw[es,gd,XV]
  by_cases z:p=q
  ·subst z
   rw[if_pos rfl,if_pos rfl]
   show tIn cs s+n-b+_=_
   omega
  ·rw[if_neg z,if_neg z,s2 q lq z]
   omega
 ·have:=nl q lq hq
  show _<=tIn cs s+n
  omega
 ·rw[es]
  refine⟨⟨lp,by show b<tIn cs s+n;omega,by show sumP p r+(tIn cs s+n-b)<=lnN cs p;omega,o1.la,o1.rd,o1.id,λ t h1 h2 cp q lq nq rq dq=>?_⟩,o2⟩
  have cp:Cp rs cs p b (sumP p r) t:=cp
  have h1:b<=t:=h1
  have h2:t<tIn cs s+n:=h2
  by_cases l:t<tIn cs s
  ·exact o1.fi t h1 l cp q lq nq rq dq
  ·rw[s2 q lq (ZQ nq)] at dq ⊢
   have te:t=tIn cs s:=by
    rcases cp with z|⟨c,lc,ec⟩|⟨x,hx,ex⟩
    ·omega
    ·by_cases hc:c∈(letM cs s).lr
     ·have:=n2 c hc
      omega
     ·have:=nl c lc hc
      omega
    ·by_cases l2:tIn cs s<t
     ·have:=Js2 (len:=lnN cs p) hx (show s.ds.getD p 0<x.2.2 by omega)
      omega
     ·omega
   subst te
   show ltL _ (keyD kind rs cs p (sumP p r+(tIn cs s-b)))=Zj
   rw[s1]
   exact ip.2 q (wait q lq rq dq)
theorem Jsu (I:Bs->Prop)(step:∀s,Wf cs s->¬(s.lr=[]/\s.wa=[])->I s->I (QY kind rs cs s)):∀(m:Nat)(s:Bs),Wf cs s->mea rs cs s<=m->I s->Wf cs (runM kind rs cs m s)/\(runM kind rs cs m s).lr=[]/\(runM kind rs cs m s).wa=[]/\I (runM kind rs cs m s)
 | m,s,w,lm,i=>by
  by_cases ne:s.lr=[]/\s.wa=[]
  ·rw[Joq ne]
   exact⟨w,ne.1,ne.2,i⟩
  ·obtain⟨w1,lt⟩:=w.step (kind:=kind) (rs:=rs) ne
   cases m with
   | zero=>omega
   | succ m =>
    rw[show runM kind rs cs (m+1) s=runM kind rs cs m (QY kind rs cs s) from if_neg ne]
    exact Jsu I step m _ w1 (by omega) (step s w ne i)
theorem Oks.at:∀{l:List St3},Oks kind rs cs l->∀{i:Nat}{a:St3},l[i]?=Za a->a.1<cs.length/\a.2.1<a.2.2/\sumP a.1 (l.drop (i+1))+(a.2.2-a.2.1)<=lnN cs a.1/\Ok1 kind rs cs a.1 a.2.1 a.2.2 (l.drop (i+1))
 | [],_,_,_,e=>by cases e
 | _::_,t,0,_,e=>by
  cases e
  exact t.1
 | _::l,t,i+1,_,e=>Oks.at (l:=l) t.2 (i:=i) e
structure Fw (kind:Int)(rs:List RH)(cs:List Cm)(ss:List St3):Prop where
 sm:∀p,p<cs.length->sumP p ss=lnN cs p
 ok:∀(i:Nat)(a:St3),ss[i]?=Za a->a.1<cs.length/\a.2.1<a.2.2/\sumP a.1 (ss.take i).reverse+(a.2.2-a.2.1)<=lnN cs a.1/\Ok1 kind rs cs a.1 a.2.1 a.2.2 (ss.take i).reverse
theorem Jz6 (L:Legal rs cs)(six:∀r∈rs,r.2.length<=6):Fw kind rs cs (finM kind rs cs).sr.reverse:=by
 have w0:=wf0 (cs:=cs) λ c hc=>(L.ok c hc).n1
 have ri:=Jsu (kind:=kind) (rs:=rs) (cs:=cs) (Sv kind rs cs) (λ s w ne v=>v.step w ne) (8*cs.length) (s0 cs) w0 (mea0 six λ c hc=>(L.ok c hc).at_) ⟨rfl,(λ a ha=>by cases ha),(λ p lp=>(ds0 cs p).symm),(λ q lq hq=>absurd ((Jj7 cs).mem_iff.mpr (Zal.mpr lq)) hq),trivial⟩
 obtain⟨wf,el,ew,sv⟩:=ri
 change Wf cs (finM kind rs cs) at wf
 change (finM kind rs cs).lr=[] at el
 change (finM kind rs cs).wa=[] at ew
 change Sv kind rs cs (finM kind rs cs) at sv
 generalize finM kind rs cs=fm at *
 refine⟨λ p lp=>?_,λ i a ea=>?_⟩
 ·rw[Jkl,sv.sm p lp,wf.dn p lp (by rw[el,ew];simp)]
 ·have hi:=(Zr.mp ea).1
  rw[Zcf] at hi
  rw[List.getElem?_reverse hi] at ea
  have:=sv.ok.at ea
  rw[show fm.sr.length-1-i+1=fm.sr.length-i by omega] at this
  rw[List.take_reverse,List.reverse_reverse]
  exact this
section
seal L4.run L4.WS
section
variable {k:Nat}{h:IH}
theorem Jyg {S lo:Nat}{ys:List IV}{rs:List RH}(gS:h[S]?=Za (.lst ys))(w:RowT h lo ys rs)(hl:rs.length<=12)(h6:∀r∈rs,r.2.length<=6) :
  WR (Jfs (k+1) [.ref S] h) λ v h'=>∃i kvs,v=.ref i/\h'[i]?=Za (.dct kvs)/\(∀x,(valI kvs (.inr x)).getD .non=fV (fstK (rs.map (·.2)) x))/\Ex h h':=by
 have hb:=J2
 have wl:=w.len
 rw[Jnb]
 refine xfin (xseq (xset (Je rfl (xseq (xfor ?_)))))
 rw[Vw]
 refine Je (arg1 rfl) ((Jn1 _).mpr ⟨_,grow gS,?_⟩)
 refine Qn (λ n σ h'=>∃kvs a b c d e,h'=h++[IX.dct kvs]/\σ=[Za (.ref S),Za (.ref h.length),a,b,c,d,e]/\kvs.length<=6*n/\Told kvs ((rs.map (·.2)).take n) n []) (λ _ _ _ q=>by obtain⟨_,_,_,_,_,_,rfl,_⟩:=q;exact grow gS) ?_ ?_ ⟨[],_,_,_,_,_,rfl,rfl,by simp,λ x=>by simp[valI,fstK,has]⟩
 ·rintro n hn _ _ ⟨kvs,a,b,c,d,e,rfl,rfl,ln,td⟩
  rw[Jm7]
  rw[VU] at hn
  have hn':n<rs.length:=by omega
  obtain⟨q,ey,_,gq⟩:=w.at_ n _ _ (Zb hn) (Zb hn')
  have hl6:=h6 _ (Z3 hn')
  have hm:n<(rs.map (·.2)).length:=by rw[Zi];exact hn'
  have tk:(rs.map (·.2)).take (n+1)=(rs.map (·.2)).take n++[(rs[n]).2]:=by rw[Zai hm,ZJ]
  rw[tk,ey]
  generalize rs[n]=r at gq hl6
  refine xnx rfl (xfor ?_)
  rw[JT]
  refine Je (ixtE rfl rfl Yj) ((JK _).mpr ⟨_,grow gq,?_⟩)
  generalize r.2=hs at gq hl6
  refine Qn (λ m σ h'=>∃kvs' c d e,h'=h++[IX.dct kvs']/\σ=[Za (.ref S),Za (.ref h.length),Za (.int (n:Int)),Za (tp6 r q),c,d,e]/\kvs'.length<=6*n+m/\Told kvs' ((rs.map (·.2)).take n) n (hs.take m)) (λ _ _ _ z=>by obtain⟨_,_,_,_,rfl,_⟩:=z;exact grow gq) ?_ ?_ ⟨kvs,c,d,e,rfl,by simp,by omega,td⟩
  ·rintro m hm _ _ ⟨kvs',c,d,e,rfl,rfl,lm,tm⟩
   have hm':m<hs.length:=by simpa using hm
   rw[ZJ,Zai hm']
   generalize hs[m]=a at *
   refine xnx rfl (Qs ?_)
   rw[Jtd (i:=h.length) (h1:=h++[IX.dct kvs']) rfl Jk Jk6]
   refine Je (arg2 rfl rfl) ?_
   cases ev:valI kvs' (.inr a.1) with
   | some w' =>
    rw[Jpf Jk ev]
    exact⟨kvs',_,_,_,rfl,rfl,by omega,tm.old ev⟩
   | none =>
    rw[Jpe Jk ev (by omega),VH]
    exact⟨_,_,_,_,rfl,rfl,by rw[Zt,Zac];omega,tm.new ev⟩
  ·rintro _ _ ⟨kvs',c,d,e,rfl,rfl,lm,tm⟩
   rw[Zi] at lm tm
   rw[Zaz (Zo _)] at tm
   have ltn:((rs.map (·.2)).take n).length=n:=by rw[Zbs];omega
   exact⟨kvs',_,_,_,_,_,rfl,rfl,by omega,tm.next ltn⟩
 ·rintro _ _ ⟨kvs,a,b,c,d,e,rfl,rfl,ln,td⟩
  refine xret (Je rfl ⟨_,kvs,rfl,Jk,λ x=>?_,.one _ _⟩)
  have:=td x
  rw[VU,Zaz (by rw[Zi];omega)] at this
  rw[this]
  cases fstK (rs.map (·.2)) x with
  | some i=>rfl
  | none=>simp[has,fV]
theorem Jwb {ns:List Int}(hi:h[i]?=Za (.lst (ns.map .int)))(hj:h[j]?=Za (.lst [])):Qv (.ref i) (.ref j) h=Za ns.isEmpty:=by
 have e2:toD h 6 (.ref j)=Za (.list []):=by rw[Xv hj];rfl
 have q:∀x∈ns.map IV.int,Pl x:=λ x hx=>by obtain⟨n,_,rfl⟩:=ZC.mp hx;exact .inl ⟨n,rfl⟩
 unfold Qv
 rw[Jxq hi q,e2]
 dsimp only
 rw[if_pos ⟨by rw[Zad];exact Jr8 q,by rw[Zad,ZP]⟩,Zbv]
 cases ns with
 | nil=>rw[Za6,Za6,Zbr];rfl
 | cons a as=>rw[Z4,Z4,Zbr];rfl;all_goals intros;simp_all
def stK (v:IV):ISt:=match v with
 | .tup [a,b,c]=>[Za a,Za b,Za c]
 | _=>[]
abbrev kV (kind:Int)(rs:List RH)(c:Cm)(d p:Int):IV:=.tup [.int (Vg kind rs c d),.int (if QS kind rs c d=Zg then 0 else 1),.int p]
theorem Jwh {kind d p:Int}{S lo T:Nat}{ys:List IV}{rs:List RH}{kvs:List (Key×IV)}{c:Cm}(hk:kind=0∨kind=1∨kind=2)(hS:h[S]?=Za (.lst ys))(w:RowT h lo ys rs)(gT:h[T]?=Za (.dct kvs))(tv:∀x,(valI kvs (.inr x)).getD .non=fV (fstK (rs.map (·.2)) x))(l6:∀r∈rs,r.2.length<=6)(ha:c.at_<rs.length) :
  WR (Jeg (k+1) [.int kind,.ref S,.ref T,tupC c,.int d,.int p] h) λ v h'=>v=kV kind rs c d p/\Ex h h':=by
 have hb:=J2
 obtain⟨q,e,gq⟩:=w.get (Zb ha)
 have ea:=JE e
 have eR:=λ (kd:Int)=>Vg.eq_1 kd rs c d
 have eH:=λ (kd:Int)=>QS.eq_1 kd rs c d
 have hz:=Jqs ha (d:=d)
 have l:=l6 _ (Z3 ha)
 rw[Xm ha] at eR eH
 generalize rs[c.at_]=r at ea gq eR eH hz l
 rw[Jpx]
 refine xfin (xseq ((Vb ..).mpr (Je rfl (xnx rfl ?_))))
 rcases hk with rfl|rfl|rfl
 case inr.inl=>exact xseq (xift rfl (xret (Je (tupE (arg3 (addE rfl (ixtE (ixlE rfl rfl hS ea) rfl Qf)) rfl rfl) rfl) ⟨by rw[kV,eR,eH];rfl,.refl _⟩)))
 case inr.inr=>exact xseq (xiff rfl (xnil (xseq (xift rfl (xret (Je (tupE (arg3 rfl rfl rfl) rfl) ⟨by rw[kV,eR,eH];rfl,.refl _⟩))))))
 refine xseq (xiff rfl (xnil (xseq (xiff rfl (xnil (xseq (xset ?_)))))))
 obtain⟨_,_,e1,rfl,gg,rfl⟩:=(Jvr (it:=Jx (Jc Jf (Jc Jf (Ja 1) (Ja 6)) (eC (.int 5)))) (g:=gTp 3 (gC (gNm 0) (gC (gNm 1) (gC (gNm 2) gN)))) (t:=Je9 k) (e:=Je8 k) (js:=[4,2]) (σ:=[Za (.int 0),Za (.ref S),Za (.ref T),Za (tupC c),Za (.int d),Za (.int p),Za (.int (c.at_:Int)),Za (.int c.come),Za (.int c.late),Za (.int c.len),Zc]) (h0:=h) (h:=h) (n:=3) (st:=stK) (xs:=r.2.map tupH) (chk:=λ h'=>h'[q]?=Za (.lst (r.2.map tupH))) (p:=avV d) (f:=λ v=>fstV (rs.map (·.2)) (frs v))
  (by rw[JT];exact Je (ixtE (ixlE rfl rfl hS ea) rfl Yj) ((JK _).mpr ⟨_,gq,rfl,rfl,rfl⟩)) (by rw[Zi];omega) (λ h2 kk=>kk _ _ gq) (by
   intro x hx ls h2 hls
   obtain⟨b,_,rfl⟩:=ZC.mp hx
   match ls,hls with
   | [l0,l1,l2],_=>exact⟨rfl,rfl⟩) (by
   intro x hx h2 kk
   obtain⟨b,_,rfl⟩:=ZC.mp hx
   show WR (JX _ _ _ _) λ v _=>v=(decide (b.2.1<d)&&decide (d<b.2.2))/\_
   by_cases z:b.2.1<d
   ·exact Je (andT (okc (ltE rfl rfl) (decide_eq_true z)) (ltE rfl rfl)) ⟨by rw[decide_eq_true z,Bool.true_and],.refl _⟩
   ·exact Je (andF (okc (ltE rfl rfl) (decide_eq_false z))) ⟨by rw[decide_eq_false z,Zdk],.refl _⟩) (by
   intro x hx qx h2 kk
   obtain⟨b,hb',rfl⟩:=ZC.mp hx
   have ne:=hz b.1 (ZC.mpr ⟨b,Zbn.mpr ⟨hb',qx⟩,rfl⟩)
   have e1:=tv b.1
   cases ef:fstK (rs.map (·.2)) b.1 with
   | none=>exact absurd ef ne
   | some jj =>
    rw[ef] at e1
    have e2:valI kvs (.inr b.1)=Za (.int (jj:Int)):=by
     cases ev:valI kvs (.inr b.1) with
     | none=>rw[ev] at e1;cases e1
     | some v=>rw[ev] at e1;rw[show v=.int (jj:Int) from e1]
    refine Je ((binE rfl rfl).trans (Js (by rw[Jtf (kk _ _ gT) e2];exact⟨rfl,rfl⟩))) ⟨?_,.refl _⟩
    show _=fstV (rs.map (·.2)) (.str b.1)
    simp only[fstV,fZ,ef])).eq
 have la:=Jqt r.2 d
 have em:((r.2.map tupH).filter (avV d)).map (λ v=>fstV (rs.map (·.2)) (frs v))=((act r.2 d).map (fZ (rs.map (·.2)))).map IV.int:=by
  rw[show(λ v=>fstV (rs.map (·.2)) (frs v))=fstV (rs.map (·.2))∘frs from rfl,<-Za8,Jmw,Za8,Za8]
  rfl
 rw[em] at e1
 have x1:Ex h (h++IX.lst (((act r.2 d).map (fZ (rs.map (·.2)))).map IV.int)::gg):=.cons _ _ _
 have gH:(h++IX.lst (((act r.2 d).map (fZ (rs.map (·.2)))).map IV.int)::gg)[h.length]?=Za (.lst (((act r.2 d).map (fZ (rs.map (·.2)))).map IV.int)):=Jz
 refine Je e1 (xret ?_)
 generalize h++IX.lst (((act r.2 d).map (fZ (rs.map (·.2)))).map IV.int)::gg=h1 at x1 gH
 generalize h.length=H at gH
 have lz:((act r.2 d).map (fZ (rs.map (·.2)))).length<=6:=by rw[Zi];omega
 have em2:((act r.2 d).map (fZ (rs.map (·.2)))).isEmpty=(act r.2 d).isEmpty:=by cases act r.2 d<;>rfl
 have rkE:[(c.at_:Int)]++(act r.2 d).map (fZ (rs.map (·.2)))=rkNs (rs.map (·.2)) (act r.2 d) c.at_:=rfl
 generalize (act r.2 d).map (fZ (rs.map (·.2)))=zs at gH em2 rkE lz
 have eM:∀{σ:ISt},σ[6]?=Za (Za (.int (c.at_:Int)))->σ[10]?=Za (Za (.ref H))->eCB (on1 VC) (Jb (Jc Jl (Jw (Jb (Ja 6) Jd)) (Ja 10)) Jd) σ h1=.ok (.int (rk (rs.map (·.2)) (act r.2 d) c.at_)) (h1++[.lst [.int (c.at_:Int)]]++[.lst ((rkNs (rs.map (·.2)) (act r.2 d) c.at_).map .int)]):=λ {σ} s6 s10=>by
  refine(cbE (arg1 ((binE (lstE (arg1 (show Ja 6 σ h1=.ok (.int (c.at_:Int)) h1 by unfold Ja;rw[s6])) rfl) (show Ja 10 σ _=.ok (.ref H) _ by unfold Ja;rw[s10])).trans (Js ((YE ..).mpr ⟨_,Jk,_,grow gH,by rw[Zi];show 1+_<=_;omega,rfl,rfl⟩))))).trans (Js ?_)
  rw[show[IV.int (c.at_:Int)]++zs.map IV.int=(rkNs (rs.map (·.2)) (act r.2 d) c.at_).map .int by rw[<- rkE];rfl,Xy,Jn3 Jk (by simp[rkNs])]
  exact⟨rfl,rfl⟩
 have eE:∀{σ:ISt}{h2:IH},Ex h1 h2->σ[10]?=Za (Za (.ref H))->eCB (on1 Xn) (Jb (Jc cEq (Ja 10) (Jw Jd)) Jd) σ h2=.ok (.int (if zs.isEmpty=Zg then 1 else 0)) (h2++[.lst []]):=λ {σ h2} x2 s10=>by
  refine(cbE (arg1 ((binE (show Ja 10 σ _=.ok (.ref H) _ by unfold Ja;rw[s10]) (lstE rfl rfl)).trans (show cEq (.ref H) (.ref h2.length) (h2++[.lst []])=.ok (.bl zs.isEmpty) _ from ?_)))).trans rfl
  unfold cEq
  rw[show Vr (.ref H) (.ref h2.length)=Zc from rfl]
  dsimp only
  rw[Jwb (grow (x2.get gH)) Jk]
 refine Je (tupE (arg3 (eM rfl rfl) (eE ((Ex.one _ _).trans (.one _ _)) rfl) rfl) rfl) ⟨?_,((x1.trans (.one _ _)).trans (.one _ _)).trans (.one _ _)⟩
 rw[kV,eR,eH,em2]
 cases act r.2 d<;>rfl
end
end
section
seal L4.run L4.WS
def Vu (cs:List Cm)(D:Nat->Int)(t:Int):List Nat:=(ZN cs.length).filter λ q=>decide (rdN cs q<=t)&&decide (D q<lnN cs q)
def wtV (cs:List Cm)(D:Nat->Int)(t:Int)(v:IV):Bool:=match v with
 | .int x=>decide (rdN cs x.toNat<=t)&&decide (D x.toNat<lnN cs x.toNat)
 | _=>Zj
abbrev dsL (cs:List Cm)(D:Nat->Int):List IV:=((ZN cs.length).map D).map .int
theorem at_D {cs:List Cm}(lp:p<cs.length):atI (dsL cs D) (p:Int)=Za (.int (D p)):=JE (by rw[Zv,Zv,ZbB lp];rfl)
theorem rngM (n:Nat):rngI 0 (n:Int)=(ZN n).map nI:=by
 refine Zbg (by rw[Ql,Zi,Zbm];omega) λ i h1 h2=>?_
 rw[VG,ZJ,ZbM,Int.zero_add]
section
variable {k:Nat}{h:IH}{rs:List RH}{cs:List Cm}{D:Nat->Int}
theorem neE (ea:a σ h=.ok (.int i) h1)(eb:b σ h1=.ok (.int j) h2):Jh asB (Jc cNe a b) σ h=.ok (!decide (i=j)) h2:=tofE (binE ea eb)
theorem Jo2 {R T:Nat}{t:Int}(gR:h[R]?=Za (.lst (cs.map tupC)))(gT:h[T]?=Za (.lst (dsL cs D)))(cn:cs.length<=200):∃gg,Ye (k+1) [.ref R,.ref T,.int t] h=.ok (.ref h.length) (h++.lst ((Vu cs D t).map nI)::gg):=by
 have hb:=J2
 suffices W:WR (Ye (k+1) [.ref R,.ref T,.int t] h) λ v h'=>v=.ref h.length/\∃gg,h'=h++.lst ((Vu cs D t).map nI)::gg by
  obtain⟨_,_,e,rfl,gg,rfl⟩:=W.eq
  exact⟨gg,e⟩
 rw[Jlu]
 refine xfin (xret (WR.mono (YH (h:=h) (xs:=rngI 0 (cs.length:Int)) (chk:=λ _=>True) (p:=wtV cs D t) (f:=λ v=>v) ?_ (by rw[Ql];omega) (λ _ _=>trivial) ?_ ?_) ?_))
 ·rw[Vw]
  refine Je (arg1 (lenE rfl gR)) ?_
  rw[Xd,Zi]
  exact⟨by omega,rfl,rfl,rfl⟩
 ·intro v hv h2 q
  rw[rngM] at hv
  obtain⟨p,hp,rfl⟩:=ZC.mp hv
  have lp:=Zal.mp hp
  have gR2:=q _ _ gR
  show WR (JX _ _ _ _) λ v _=>v=(decide (rdN cs (Zc1 p)<=t)&&decide (D (Zc1 p)<lnN cs (Zc1 p)))/\_
  rw[ZaF]
  by_cases z:rdN cs p<=t
  ·exact Je (andT (okc (leE (addE (ixtE (ixlE rfl rfl gR2 (Qp lp)) rfl JU) (ixtE (ixlE rfl rfl gR2 (Qp lp)) rfl Qj)) rfl) (decide_eq_true z)) (ltE (ixlE rfl rfl (q _ _ gT) (at_D lp)) (ixtE (ixlE rfl rfl gR2 (Qp lp)) rfl Qf))) ⟨by rw[decide_eq_true z,Bool.true_and];rfl,.refl _⟩
  ·exact Je (andF (okc (leE (addE (ixtE (ixlE rfl rfl gR2 (Qp lp)) rfl JU) (ixtE (ixlE rfl rfl gR2 (Qp lp)) rfl Qj)) rfl) (decide_eq_false z))) ⟨by rw[decide_eq_false z,Zdk],.refl _⟩
 ·exact λ v hv _ h2 q=>Je rfl ⟨rfl,.refl _⟩
 ·rintro _ _ ⟨rfl,gg,rfl⟩
  refine⟨rfl,gg,?_⟩
  rw[Ze1,rngM,List.filter_map]
  congr 4
theorem Jvm {a:St3}{d:Int}(gS:h[S]?=Za (.lst ys))(w:RowT h lo ys rs)(gR:h[R]?=Za (.lst (cs.map tupC)))(ha:a.1<cs.length)(ca:(cs.getD a.1 cd).at_<rs.length)(l6:∀r∈rs,r.2.length<=6)(cn:cs.length<=200)(lt:a.2.1<a.2.2) :
  WR (Jd3 (k+1) [.ref S,.ref R,.int d,tupS a] h) λ v h'=>∃zs:List Int,v=.ref h.length/\h'=h++[.lst (zs.map .int)]/\∀t∈zs,a.2.1<=t/\t<a.2.2/\Cp rs cs a.1 a.2.1 d t:=by
 have hb:=J2
 obtain⟨q,ey,gq⟩:=w.get (Zb ca)
 have hh:hsN rs cs a.1=(rs[(cs.getD a.1 cd).at_]).2:=by unfold hsN;rw[Xm ca]
 have hl:=l6 _ (Z3 ca)
 rw[<- hh] at gq hl
 rw[Jlt]
 refine xfin (xseq ((Vb ..).mpr (Je rfl (xnx rfl (xseq (xset (Je (lstE (arg1 rfl) rfl) (xseq (xfor ?_)))))))))
 rw[JT]
 refine Je rfl ((JK _).mpr ⟨_,grow gR,?_⟩)
 refine Qn (λ n σ h'=>∃(zs:List Int)(c:Option IV),σ=[Za (.ref S),Za (.ref R),Za (.int d),Za (tupS a),Za (.int (a.1:Int)),Za (.int a.2.1),Za (.int a.2.2),Za (.ref h.length),c,Zc,Zc,Zc]/\h'=h++[.lst (zs.map .int)]/\zs.length<=1+n/\∀t∈zs,a.2.1<=t/\t<a.2.2/\Cp rs cs a.1 a.2.1 d t) (λ _ _ _ ⟨_,_,_,e,_⟩=>by rw[e];exact grow gR) ?_ ?_ ⟨[a.2.1],Zc,rfl,rfl,Zo _,λ t ht=>by rw[Zy.mp ht];exact⟨ZaB _,lt,.inl rfl⟩⟩
 ·rintro n hn _ _ ⟨zs,c,rfl,rfl,lz,pz⟩
  have hn:n<cs.length:=by simpa using hn
  have er:(cs[n]).come+(cs[n]).late=rdN cs n:=by unfold rdN;rw[Zk,Zb hn];rfl
  rw[ZJ]
  generalize cs[n]=x at er
  refine xnx rfl ?_
  have A:∀{σ:ISt}{h:IH},σ[8]?=Za (Za (tupC x))->Jc Jl (Jc Jf (Ja 8) (eC (.int 1))) (Jc Jf (Ja 8) (eC (.int 2))) σ h=.ok (.int (rdN cs n)) h:=λ {σ h} e=>by
   have e8:Ja 8 σ h=.ok (tupC x) h:=by unfold Ja;rw[e]
   rw[<- er]
   exact addE (ixtE e8 rfl JU) (ixtE e8 rfl Qj)
  by_cases z1:a.2.1<rdN cs n
  ·by_cases z2:rdN cs n<a.2.2
   ·refine xift (andT (okc (ltE rfl (A rfl)) (decide_eq_true z1)) (okc (ltE (A rfl) rfl) (decide_eq_true z2))) (Qs (QP rfl Jk V6 (Je (arg1 (A rfl)) (xapp Jk (by rw[Zi];omega) ⟨zs++[rdN cs n],_,rfl,by rw[VH,Zbp];rfl,by rw[Zt,Zac];omega,λ t ht=>?_⟩))))
    rcases ZM.mp ht with ht|ht
    ·exact pz t ht
    ·rw[Zy.mp ht]
     exact⟨by omega,z2,.inr (.inl ⟨n,hn,rfl⟩)⟩
   ·exact xiff (andT (okc (ltE rfl (A rfl)) (decide_eq_true z1)) (okc (ltE (A rfl) rfl) (decide_eq_false z2))) (xnil ⟨zs,_,rfl,rfl,by omega,pz⟩)
  ·exact xiff (andF (okc (ltE rfl (A rfl)) (decide_eq_false z1))) (xnil ⟨zs,_,rfl,rfl,by omega,pz⟩)
 ·rintro _ _ ⟨zs,c,rfl,rfl,lz,pz⟩
  rw[Zi] at lz
  refine xseq (xfor ?_)
  rw[JT]
  refine Je (ixtE (ixlE rfl (ixtE (ixlE rfl rfl (grow gR) (Qp ha)) rfl Qc) (grow gS) (JE ey)) rfl Yj) ((JK _).mpr ⟨_,grow gq,?_⟩)
  refine Qn (λ n σ h'=>∃(zs:List Int)(c c9 c10 c11:Option IV),σ=[Za (.ref S),Za (.ref R),Za (.int d),Za (tupS a),Za (.int (a.1:Int)),Za (.int a.2.1),Za (.int a.2.2),Za (.ref h.length),c,c9,c10,c11]/\h'=h++[.lst (zs.map .int)]/\zs.length<=1+cs.length+n/\∀t∈zs,a.2.1<=t/\t<a.2.2/\Cp rs cs a.1 a.2.1 d t) (λ _ _ _ ⟨_,_,_,_,_,_,e,_⟩=>by rw[e];exact grow gq) ?_ ?_ ⟨zs,_,_,_,_,rfl,rfl,by omega,pz⟩
  ·rintro n hn _ _ ⟨zs,c,c9,c10,c11,rfl,rfl,lz,pz⟩
   have hn:n<(hsN rs cs a.1).length:=by simpa using hn
   have hx:=Z3 hn
   rw[ZJ]
   generalize (hsN rs cs a.1)[n]=x at hx
   refine xnx rfl ?_
   by_cases z1:d<x.2.2
   ·by_cases z2:x.2.2<d+a.2.2-a.2.1
    ·refine xift (andT (okc (ltE rfl rfl) (decide_eq_true z1)) (okc (ltE rfl (subE (addE rfl rfl) rfl)) (decide_eq_true z2))) (Qs (QP rfl Jk V6 (Je (arg1 (subE (addE rfl rfl) rfl)) (xapp Jk (by rw[Zi];omega) ⟨zs++[a.2.1+x.2.2-d],_,_,_,_,rfl,by rw[VH,Zbp];rfl,by rw[Zt,Zac];omega,λ t ht=>?_⟩))))
     rcases ZM.mp ht with ht|ht
     ·exact pz t ht
     ·rw[Zy.mp ht]
      exact⟨by omega,by omega,.inr (.inr ⟨x,hx,by omega⟩)⟩
    ·exact xiff (andT (okc (ltE rfl rfl) (decide_eq_true z1)) (okc (ltE rfl (subE (addE rfl rfl) rfl)) (decide_eq_false z2))) (xnil ⟨zs,_,_,_,_,rfl,rfl,by omega,pz⟩)
   ·exact xiff (andF (okc (ltE rfl rfl) (decide_eq_false z1))) (xnil ⟨zs,_,_,_,_,rfl,rfl,by omega,pz⟩)
  ·rintro _ _ ⟨zs,c,c9,c10,c11,rfl,rfl,lz,pz⟩
   exact xret (Je rfl ⟨zs,rfl,rfl,pz⟩)
theorem Jtz {kind:Int}{S R T lo:Nat}{a:St3}(hk:kind=0∨kind=1∨kind=2)(gS:h[S]?=Za (.lst ys))(w:RowT h lo ys rs)(gR:h[R]?=Za (.lst (cs.map tupC)))(gT:h[T]?=Za (.lst (dsL cs D)))(ha:a.1<cs.length)(c0:∀p,p<cs.length->(cs.getD p cd).at_<rs.length)(few:rs.length<=12)(l6:∀r∈rs,r.2.length<=6)(cn:cs.length<=200)(lt:a.2.1<a.2.2) 
  (fi:∀t,a.2.1<=t->t<a.2.2->Cp rs cs a.1 a.2.1 (D a.1) t->∀q,q<cs.length->q≠a.1->rdN cs q<=t->D q<lnN cs q->ltL (keyD kind rs cs q (D q)) (keyD kind rs cs a.1 (D a.1+(t-a.2.1)))=Zj) :
  WR (Jbx (k+2) [.int kind,.ref S,.ref R,.ref T,tupS a] h) λ v h'=>v=.bl Zg/\Ex h h':=by
 obtain⟨_,h1,e1,L,kvs,rfl,gL,tv,x1⟩:=(Jyg (k:=k) gS w few l6).eq
 rw[Jlp]
 refine xfin (xseq (xset (Je (JN (arg1 rfl) e1) (xseq ((Vb ..).mpr (Je rfl (xnx rfl (xseq (xfor ?_)))))))))
 have gT1:=x1.get gT
 have gR1:=x1.get gR
 obtain⟨_,_,e2,zs,rfl,rfl,pz⟩:=(Jvm (k:=k) (d:=D a.1) (x1.get gS) (w.kp x1.kp) gR1 ha (c0 _ ha) l6 cn lt).eq
 rw[JT]
 refine Je (JN (arg4 rfl rfl (ixlE rfl rfl gT1 (at_D ha)) rfl) e2) ((JK _).mpr ⟨_,Jk,?_⟩)
 have x2:Ex h1 (h1++[.lst (zs.map .int)]):=.one _ _
 have g2:(h1++[IX.lst (zs.map .int)])[h1.length]?=Za (.lst (zs.map .int)):=Jk
 generalize h1++[IX.lst (zs.map IV.int)]=h2 at x2 g2
 have x02:=x1.trans x2
 have gL2:=x2.get gL
 refine Qn (λ _ σ h'=>Ex h2 h'/\∃c9 c10 c11 c12 c13,σ=[Za (.int kind),Za (.ref S),Za (.ref R),Za (.ref T),Za (tupS a),Za (.ref L),Za (.int (a.1:Int)),Za (.int a.2.1),Za (.int a.2.2),c9,c10,c11,c12,c13]) (λ _ _ _ ⟨x,_⟩=>x.get g2) ?_ (λ _ _ ⟨x,_,_,_,_,_,e⟩=>by rw[e];exact xret (Je rfl ⟨rfl,x02.trans x⟩)) ⟨.refl _,_,_,_,_,_,rfl⟩
 rintro n hn _ h3 ⟨x3,c9,c10,c11,c12,c13,rfl⟩
 have ht:=pz _ (Z3 (show n<zs.length by simpa using hn))
 rw[ZJ]
 generalize zs[n]'_=t at ht
 have x03:=x02.trans x3
 have gR3:=x03.get gR
 obtain⟨_,h4,e4,rfl,x4⟩:=(Jwh (k:=k) (d:=D a.1+t-a.2.1) (p:=(a.1:Int)) hk (x03.get gS) (w.kp x03.kp) (x3.get gL2) tv l6 (c0 _ ha)).eq
 have x04:=x03.trans x4
 obtain⟨gg,e5⟩:=Jo2 (k:=k) (t:=t) (x04.get gR) (x04.get gT) cn
 refine xnx rfl (xseq (xset (Je (subE (addE (ixlE rfl rfl (x03.get gT) (at_D ha)) rfl) rfl) (xseq (xset (Je (JN (argC rfl (argC rfl (argC rfl (argC (ixlE rfl rfl gR3 (Qp ha)) (argC rfl (arg1 rfl)))))) e4) (xfor ?_)))))))
 rw[JT]
 refine Je (JN (arg3 rfl rfl rfl) e5) ((JK _).mpr ⟨_,Jz,?_⟩)
 have x5:Ex h4 (h4++IX.lst ((Vu cs D t).map nI)::gg):=.cons _ _ _
 have g5:(h4++IX.lst ((Vu cs D t).map nI)::gg)[h4.length]?=Za (.lst ((Vu cs D t).map nI)):=Jz
 generalize h4++IX.lst ((Vu cs D t).map nI)::gg=h5 at x5 g5
 have x25:=x3.trans (x4.trans x5)
 refine Qn (λ _ σ h'=>Ex h5 h'/\∃c12 c13,σ=[Za (.int kind),Za (.ref S),Za (.ref R),Za (.ref T),Za (tupS a),Za (.ref L),Za (.int (a.1:Int)),Za (.int a.2.1),Za (.int a.2.2),Za (.int t),Za (.int (D a.1+t-a.2.1)),Za (kV kind rs (cs.getD a.1 cd) (D a.1+t-a.2.1) (a.1:Int)),c12,c13]) (λ _ _ _ ⟨x,_⟩=>x.get g5) ?_ (λ _ _ ⟨x,_,_,e⟩=>⟨x25.trans x,_,_,_,_,_,e⟩) ⟨.refl _,_,_,rfl⟩
 rintro m hm _ h6 ⟨x6,c12,c13,rfl⟩
 have hq:=Z3 (l:=Vu cs D t) (show m<(Vu cs D t).length by simpa using hm)
 rw[ZJ]
 generalize (Vu cs D t)[m]'_=q at hq
 obtain⟨lq,hq⟩:=Zbn.mp hq
 have lq:=Zal.mp lq
 obtain⟨rq,dq⟩:=Zq .. ▸hq
 have rq:=of_decide_eq_true rq
 have dq:=of_decide_eq_true dq
 have x06:=x02.trans (x25.trans x6)
 obtain⟨_,h7,e7,rfl,x7⟩:=(Jwh (k:=k) (d:=D q) (p:=(q:Int)) hk (x06.get gS) (w.kp x06.kp) ((x25.trans x6).get gL2) tv l6 (c0 _ lq)).eq
 refine xnx rfl (xseq (xset (Je (JN (argC rfl (argC rfl (argC rfl (argC (ixlE rfl rfl (x06.get gR) (Qp lq)) (argC (ixlE rfl rfl (x06.get gT) (at_D lq)) (arg1 rfl)))))) e7) (xiff ?_ (xnil ⟨x6.trans x7,_,_,rfl⟩)))))
 by_cases z:q=a.1
 ·exact andF (okc (neE rfl rfl) (by rw[decide_eq_true (by rw[z])];rfl))
 ·refine andT (okc (neE rfl rfl) (by rw[decide_eq_false (by omega)];rfl)) (tofE ((binE rfl rfl).trans ?_))
  have f:=fi t ht.1 ht.2.1 ht.2.2 q lq z rq dq
  rw[show D a.1+(t-a.2.1)=D a.1+t-a.2.1 by omega] at f
  unfold cLtX
  rw[show ltT (kV kind rs (cs.getD q cd) (D q) (q:Int)) (kV kind rs (cs.getD a.1 cd) (D a.1+t-a.2.1) (a.1:Int))=Za (ltL (keyD kind rs cs q (D q)) (keyD kind rs cs a.1 (D a.1+t-a.2.1))) from Joj (as:=keyD kind rs cs q (D q)) (bs:=keyD kind rs cs a.1 (D a.1+t-a.2.1)) rfl,f]
end
end
section
seal L4.run L4.WS
section
variable {k:Nat}{h:IH}
abbrev sg4 (v0:IV)(kind:Int)(S C R T:Nat)(last:Int)(a7 a8 a9 a10:Option IV):ISt:=[Za v0,Za (.int kind),Za (.ref S),Za (.ref C),Za (.ref R),Za (.ref T),Za (.int last),a7,a8,a9,a10]
theorem Jvj {l:List St3}{n p:Nat}(e:l[n]?=Za a):sumP p (l.take (n+1)).reverse=sumP p (l.take n).reverse+(if a.1=p then a.2.2-a.2.1 else 0):=by
 have hn:=(Zr.mp e).1
 rw[Zai hn,List.reverse_append,(Zr.mp e).2,List.reverse_singleton,ZU,XV,Zag,Int.add_comm]
theorem Jzi {v0:IV}{kind:Int}{S C R T F lo:Nat}{ys:List IV}{rs:List RH}{cs:List Cm}{ss:List St3}{e:E1}{h0 h1:IH}{Q:IV->IH->Prop}(hk:kind=0∨kind=1∨kind=2)(ee:e (sg4 v0 kind S C R T 0 Zc Zc Zc Zc) h=.ok (.ref F) h1)(x0:Ex h0 h1)(gS:h0[S]?=Za (.lst ys))(w:RowT h0 lo ys rs)(gR:h0[R]?=Za (.lst (cs.map tupC)))(gF:h1[F]?=Za (.lst (ss.map tupS)))(gT:h1[T]?=Za (.lst (dsL cs λ _=>0)))(l0:h0.length<=T)(FT:T≠F)
  (c0:∀p,p<cs.length->(cs.getD p cd).at_<rs.length)(few:rs.length<=12)(l6:∀r∈rs,r.2.length<=6)(cn:cs.length<=200)(f:Fw kind rs cs ss) :
  WS (sFor (Jx e) (gNm 7) (Joi (k+3)) (sg4 v0 kind S C R T 0 Zc Zc Zc Zc) h) (λ σ h'=>(∃last a7 a8 a9 a10,σ=sg4 v0 kind S C R T last a7 a8 a9 a10)/\Ex h0 h'/\h'[T]?=Za (.lst (dsL cs λ q=>sumP q ss.reverse))) Q:=by
 have hb:=J2
 refine xfor ?_
 rw[JT]
 refine Je ee ((JK _).mpr ⟨_,gF,?_⟩)
 refine Qn (λ n σ h'=>(∃a7 a8 a9 a10,σ=sg4 v0 kind S C R T (Xo (ss.take n).reverse) a7 a8 a9 a10)/\Ex h0 h'/\h'[F]?=Za (.lst (ss.map tupS))/\h'[T]?=Za (.lst (dsL cs λ q=>sumP q (ss.take n).reverse))) (λ _ _ _ ⟨_,_,g,_⟩=>g) ?_ ?_ ⟨⟨_,_,_,_,rfl⟩,x0,gF,gT⟩
 ·rintro n hn _ h2 ⟨⟨a7,a8,a9,a10,rfl⟩,x2,gF2,gT2⟩
  have hn:n<ss.length:=by simpa using hn
  have en:ss[n]?=Za ss[n]:=Zb hn
  obtain⟨la,lt,le,ok⟩:=f.ok n _ en
  have st:=λ q=>Jvj (p:=q) en
  have sl:Xo (ss.take (n+1)).reverse=(ss[n]).2.2:=by rw[Zai hn,List.reverse_append];rfl
  rw[ZJ,sl]
  generalize ss[n]=a at la lt le ok st
  generalize (ss.take n).reverse=r at gT2 le ok st
  have gR2:=x2.get gR
  have rd:(cs.getD a.1 cd).come+(cs.getD a.1 cd).late<=a.2.1:=ok.rd
  have le:sumP a.1 r+(a.2.2-a.2.1)<=(cs.getD a.1 cd).len:=le
  have la1:=ok.la
  have tail:∀h3,Ex h2 h3->WS (Jg (sIf (JB (Jh tru (Jm (Jbx (k+3)) [] (Jb (Ja 1) (Jb (Ja 2) (Jb (Ja 4) (Jb (Ja 5) (Jb (Ja 7) Jd)))))))) (Jj (eC (.bl Zj))) Jp) (Jg (VY .Add (Ja 5) (Ja 8) (Jc JZ (Ja 10) (Ja 9))) (Ji 6 (Ja 10))) (sg4 v0 kind S C R T (Xo r) (Za (tupS a)) (Za (.int (a.1:Int))) (Za (.int a.2.1)) (Za (.int a.2.2))) h3) (λ σ h'=>(∃a7 a8 a9 a10,σ=sg4 v0 kind S C R T a.2.2 a7 a8 a9 a10)/\Ex h0 h'/\h'[F]?=Za (.lst (ss.map tupS))/\h'[T]?=Za (.lst (dsL cs λ q=>sumP q (ss.take (n+1)).reverse))) Q:=λ h3 x3=>by
   have x03:=x2.trans x3
   obtain⟨_,h4,e4,rfl,x4⟩:=(Jtz (k:=k+1) hk (x03.get gS) (w.kp x03.kp) (x03.get gR) (x3.get gT2) la c0 few l6 cn lt ok.fi).eq
   refine xseq (xiff (notE (truE (JN (argC rfl (argC rfl (argC rfl (argC rfl (arg1 rfl))))) e4))) (xnil (xseq ?_)))
   have x34:=x3.trans x4
   have gT4:=x34.get gT2
   refine J2l rfl rfl gT4 (at_D la) (by omega) (subE rfl rfl) gT4 (j:=a.1) (by simp[ixN];omega) (xset (Je rfl ⟨⟨_,_,_,_,rfl⟩,Vl (x2.trans x34) l0,JA (x34.get gF2) FT,?_⟩))
   rw[QK gT4,<-List.map_set]
   congr 3
   refine Zb7 λ q=>?_
   rw[List.getElem?_set]
   split
   ·rename_i eq
    subst eq
    rw[if_pos (by simpa using la),Zv,ZbB la]
    simp only[ZcX]
    rw[st,if_pos rfl]
   ·rename_i nq
    rw[Zv,Zv]
    by_cases lq:q<cs.length
    ·rw[ZbB lq]
     simp only[ZcX]
     rw[st,if_neg nq,Int.add_zero]
    ·rw[ZaJ (by simpa using lq)]
     rfl
  refine xnx rfl (xseq ((Vb ..).mpr (Je rfl (xnx rfl (xseq (xiff (notE (tofE (chT rfl rfl (lenE rfl gR2) (by omega) (by rw[Zi];omega)))) (xnil ?_)))))))
  refine xseq (xiff (orF (okc (ltE rfl rfl) (decide_eq_false (by omega))) (okc (leE rfl rfl) (decide_eq_false (by omega)))) (xnil ?_))
  refine xseq (xiff (okc (ltE rfl (addE (ixtE (ixlE rfl rfl gR2 (Qp la)) rfl JU) (ixtE (ixlE rfl rfl gR2 (Qp la)) rfl Qj))) (decide_eq_false (by omega))) (xnil ?_))
  refine xseq (xiff (okc (gtE (subE (addE (ixlE rfl rfl gT2 (at_D la)) rfl) rfl) (ixtE (ixlE rfl rfl gR2 (Qp la)) rfl Qf)) (decide_eq_false (by omega))) (xnil (xseq ?_)))
  by_cases z:Xo r<a.2.1
  ·obtain⟨gg,e3⟩:=Jo2 (k:=k+2) (D:=λ q=>sumP q r) (t:=a.2.1-1) gR2 gT2 cn
   have ew:Vu cs (λ q=>sumP q r) (a.2.1-1)=[]:=by
    refine List.filter_eq_nil_iff.mpr λ q hq=>?_
    have lq:=Zal.mp hq
    by_cases rq:rdN cs q<a.2.1
    ·have:=ok.id z q lq rq
     rw[decide_eq_false (show ¬sumP q r<lnN cs q by omega),Bool.and_false]
     exact Zs
    ·rw[decide_eq_false (show ¬rdN cs q<=a.2.1-1 by omega),Zdk]
     exact Zs
   rw[ew] at e3
   have en:cNe (.ref h2.length) (.ref (h2++IX.lst []::gg).length) (h2++IX.lst []::gg++[IX.lst []])=.ok (.bl Zj) (h2++IX.lst []::gg++[IX.lst []]):=by
    unfold cNe
    rw[show Vr (.ref h2.length) (.ref (h2++IX.lst []::gg).length)=Zc from rfl]
    dsimp only
    rw[Jwb (h:=h2++IX.lst []::gg++[IX.lst []]) (i:=h2.length) (j:=(h2++IX.lst []::gg).length) (ns:=[]) (grow Jz) Jk]
    rfl
   exact xiff (andT (okc (ltE rfl rfl) (decide_eq_true z)) (tofE ((binE (JN (arg3 rfl rfl (subE rfl rfl)) e3) (lstE rfl rfl)).trans en))) (xnil (tail (h2++IX.lst []::gg++[IX.lst []]) ((Ex.cons _ _ _).trans (.one _ _))))
  ·exact xiff (andF (okc (ltE rfl rfl) (decide_eq_false z))) (xnil (tail _ (.refl _)))
 ·rintro _ h2 ⟨⟨a7,a8,a9,a10,rfl⟩,x2,_,g2⟩
  rw[Zi,List.take_length] at g2
  exact⟨⟨_,_,_,_,_,rfl⟩,x2,g2⟩
theorem Juj (ns:List Int)(hl:ns.length<=63):∃h',X2 16 [.rol (ns.map IV.int)] [.tab "Order.pick",.tab "Bench.__init__"]=.ok (.bl Zg) h':=by
 suffices h:WR (X2 16 [.rol (ns.map IV.int)] [.tab "Order.pick",.tab "Bench.__init__"]) λ v _=>v=.bl Zg by
  obtain⟨v,h',e,rfl⟩:=h.eq
  exact⟨h',e⟩
 have hb:=J2
 have t0:([.tab "Order.pick",.tab "Bench.__init__"]:IH)[1]?=Za (.tab "Bench.__init__"):=rfl
 have t1:([.tab "Order.pick",.tab "Bench.__init__"]:IH)[0]?=Za (.tab "Order.pick"):=rfl
 generalize ([.tab "Order.pick",.tab "Bench.__init__"]:IH)=h at t0 t1 ⊢
 rw[J0a]
 have c7:=λ (h:IH)=>Jjs (k:=14) (h:=h) ns 7 (by decide)
 generalize ns.getD (Zc1 7) 0=x7 at c7
 refine xfin (xseq (xset (Je (modE (JN (arg2 rfl rfl) (c7 _)) rfl (by decide)) ?_)))
 have hk:x7%3=0∨x7%3=1∨x7%3=2:=by omega
 generalize x7%3=kind at hk
 refine xseq (xset (xb (Je (arg2 rfl rfl) (WR.mono (Jy9 (k:=11) ns (decide (kind=0))) ?_))))
 rintro _ h1 ⟨x1,S,lo,ys,rs,c,unit,rfl,_,gS,w,D,lr,sm,no⟩
 have ec:cutI (ns.map IV.int) (Za 8) (Za 22)=((ns.drop 8).take 14).map IV.int:=by
  rw[show(Za (8:Int))=Za ((8:Nat):Int) from rfl,show(Za (22:Int))=Za ((22:Nat):Int) from rfl,Jxp]
  rw[List.map_take,Zel,List.drop_take]
 have G:=D.gd lr sm
 have six:∀r∈rs,r.2.length<=6:=λ r hr=>(G.f r hr).ok.few
 refine xseq (xset (Je (show eSl slI _ _ _ _ _=.ok (.ref h1.length) (h1++[.lst (cutI (ns.map IV.int) (Za 8) (Za 22))]) from rfl) ?_))
 rw[ec]
 have x2:Ex h1 (h1++[IX.lst (((ns.drop 8).take 14).map IV.int)]):=.one _ _
 have g2:(h1++[IX.lst (((ns.drop 8).take 14).map IV.int)])[h1.length]?=Za (.lst (((ns.drop 8).take 14).map IV.int)):=Jk
 have l2:((ns.drop 8).take 14).length<=14:=by rw[Zbs];omega
 generalize h1++[IX.lst (((ns.drop 8).take 14).map IV.int)]=h2 at x2 g2
 -- Jz the cells
 have rest:∀(C:Nat)(cells:List Int)(h3:IH),Ex h1 h3->h3[C]?=Za (.lst (cells.map .int))->cells.length<=54->WS (Jq1 15 [Za (.rol (ns.map IV.int)),Za (.int kind),Za (.ref S),Za (.ref C),Zc,Zc,Zc,Zc,Zc,Zc,Zc] h3) (λ _ _=>False) λ v _=>v=.bl Zg:=by
  intro C cells h3 x3 gC lC
  obtain⟨_,h4,e4,R,cs,rfl,_,gR,L,lcs,x4⟩:=(J1s (k:=13) (x3.get gS) (w.kp x3.kp) D lr sm gC (by omega)).eq
  have x14:=x3.trans x4
  refine xseq (xset (Je (JN (arg2 rfl rfl) e4) (xseq (xset ?_))))
  refine WR.mono (Qh (h:=h4) (xs:=cs.map tupC) (chk:=λ h'=>h'[R]?=Za (.lst (cs.map tupC))) (f:=λ _=>.int 0) ?_ (by rw[Zi];omega) (λ h2 q=>q _ _ gR) λ v hv h2 q=>Je rfl ⟨rfl,.refl _⟩) ?_
  ·rw[JT]
   exact Je rfl ((JK _).mpr ⟨_,gR,rfl,rfl,rfl⟩)
  rintro _ _ ⟨rfl,gg,rfl⟩
  have x5:Ex h4 (h4++.lst ((cs.map tupC).map λ _=>.int 0)::gg):=.cons _ _ _
  have g5:(h4++IX.lst ((cs.map tupC).map λ _=>.int 0)::gg)[h4.length]?=Za (.lst (dsL cs λ _=>0)):=by
   rw[Jz]
   congr 2
   refine Zbg (by simp) λ i _ _=>by simp
  have l5:h4.length<(h4++IX.lst ((cs.map tupC).map λ _=>.int 0)::gg).length:=by rw[Zt,ZB];omega
  generalize h4++IX.lst ((cs.map tupC).map λ _=>.int 0)::gg=h5 at x5 g5 l5
  have x15:=x14.trans x5
  refine xseq (xset (Je rfl (xseq ?_)))
  obtain⟨_,h6,e6,O,rfl,x6,o⟩:=(Juu (k:=9) (x15.get gS) (w.kp x15.kp) G hk λ ne=>no (decide_eq_false ne)).eq
  have gR6:=x6.get (x5.get gR)
  have x7:Ex h6 (h6++[.lst (cs.map tupC)]):=.one _ _
  have gH:(h6++[IX.lst (cs.map tupC)])[h6.length]?=Za (.lst (cs.map tupC)):=Jk
  have xt:=x1.trans (x15.trans (x6.trans x7))
  obtain⟨_,h8,e8,F,rfl,lF,gF,x8⟩:=(J1t (k:=8) (R:=h6.length) ⟨o.kp x7.kp,gH,λ c hc=>(L.ok c hc).at_,six,xt.get t1,by omega⟩ (xt.get t0) L (by omega)).eq
  have fw:=Jz6 (kind:=kind) L six
  generalize (finM kind rs cs).sr.reverse=ss at fw gF
  have x58:=x6.trans (x7.trans x8)
  have l6:=x6.len
  rw[Zt,Zac] at lF
  refine WS.mono (Jzi (k:=12) (v0:=.rol (ns.map IV.int)) (S:=S) (C:=C) (R:=R) (T:=h4.length) hk (JN (arg2 (JN (arg2 rfl rfl) e6) (J02 rfl gR6)) e8) (x5.trans x58) (x14.get gS) (w.kp x14.kp) gR gF (x58.get g5) (Zo _) (by omega) (λ p lp=>(L.ok _ (by rw[Zk,Zb lp];exact Z3 lp)).at_) lr six (by omega) fw) ?_ λ _ _ z=>z
  rintro _ h9 ⟨⟨last,a7,a8,a9,a10,rfl⟩,x9,g9⟩
  have gR9:=x9.get gR
  obtain⟨_,_,e10,rfl,gg,rfl⟩:=(Qh (it:=Jx (Ja 4)) (js:=[]) (e:=Jk9 15) (σ:=sg4 (.rol (ns.map IV.int)) kind S C R h4.length last a7 a8 a9 a10) (h0:=h9) (h:=h9) (xs:=cs.map tupC) (chk:=λ h'=>h'[R]?=Za (.lst (cs.map tupC))) (f:=lenF)
   (by rw[JT];exact Je rfl ((JK _).mpr ⟨_,gR9,rfl,rfl,rfl⟩)) (by rw[Zi];omega) (λ h2 q=>q _ _ gR9) (by
    intro v hv h2 q
    obtain⟨c,_,rfl⟩:=ZC.mp hv
    exact Je (ixtE rfl rfl Qf) ⟨rfl,.refl _⟩)).eq
  have x10:Ex h9 (h9++.lst ((cs.map tupC).map lenF)::gg):=.cons _ _ _
  have g10:(h9++IX.lst ((cs.map tupC).map lenF)::gg)[h9.length]?=Za (.lst (dsL cs λ q=>sumP q ss.reverse)):=by
   rw[Jz]
   congr 2
   refine Zbg (by simp) λ i h1 h2=>?_
   have li:i<cs.length:=by simpa using h1
   simp only[ZJ,ZbM,Jkl]
   rw[fw.sm i li]
   unfold lnN
   rw[Zk,Zb li]
   rfl
  exact xret (Je ((binE rfl e10).trans (Jxu (x10.get g9) g10 λ x hx=>by obtain⟨z,_,rfl⟩:=ZC.mp hx;exact .inl ⟨_,rfl⟩)) rfl)
 refine xseq (xifd (eqE (modE (Qk (JN (arg2 rfl rfl) (c7 _)) rfl (by decide) (by decide)) rfl (by decide)) rfl) (λ _=>xset (xb (Je rfl (xb (xb (Je (arg2 (Qk (JN (arg2 rfl rfl) (c7 _)) rfl (by decide) (by decide)) rfl) (WR.mono (Jie (k:=14) (h:=h2) (x7/48) 40 (by decide)) ?_))))))) λ _=>xnil (WS.mono (rest h1.length _ h2 x2 g2 (by omega)) (λ _ _ z=>z.elim) λ _ _ z=>z))
 rintro _ h3 ⟨i,xs,rfl,_,gi,lx,_,x3⟩
 refine(YE ..).mpr ⟨_,x3.get g2,_,gi,by rw[Zi,Zi];omega,?_⟩
 rw[<- Zbp]
 exact WS.mono (rest _ _ _ (x2.trans (x3.trans (.one _ _))) Jk (by rw[Zt];omega)) (λ _ _ z=>z.elim) λ _ _ z=>z
end
end
end LW
end
namespace LW
open PySem L2 L3 L4
section
local macro_rules | `(tactic| bv_omega) => `(tactic| exact ⟨scOk.of (by decide +kernel), rfl, rfl, λ _ _ _ _ _ _ => by first | exact len1 λ _ => rfl | exact len2 λ _ _ => rfl | exact len3 λ _ _ _ => rfl | exact len4 λ _ _ _ _ => rfl | exact len5 λ _ _ _ _ _ => rfl | exact len6 λ _ _ _ _ _ _ => rfl⟩)
variable {K:W.Frag}{h:Zas}{mg:Str->Option Ze}{a:Zm}{oc kV dc pm cd ct:Ze}{od an:Option Zm}{sl:Array (Option Ze)}
theorem Jnr:FnB "is_whole" "is_whole" Jde:=by bv_omega
theorem Jgs:FnB "is_whole_from" "is_whole_from" Jal:=by bv_omega
theorem Jmp:FnB "rounds_up" "rounds_up" Jcf:=by bv_omega
theorem Ju1:FnB "ready" "ready" Jjv:=by bv_omega
theorem Jsw:FnB "due_at" "due_at" Jgv:=by bv_omega
theorem Jme:FnB "is_coming" "is_coming" Jb4:=by bv_omega
theorem Jiy:FnB "first_wrong" "first_wrong" Jaz:=by bv_omega
theorem Jqe:FnB "checked" "checked" Jfb:=by bv_omega
theorem Jqg:FnB "is_name" "is_name" Jfd:=by bv_omega
theorem Jqf:FnB "is_hold" "is_hold" Jfc:=by bv_omega
theorem Jml:FnB "lie_apart" "lie_apart" Jcb:=by bv_omega
theorem Jqj:FnB "lies_in" "lies_in" Jfg:=by bv_omega
theorem Jiz:FnB "go_together" "go_together" Ja0:=by bv_omega
theorem Jfp:FnB "all_go_together" "all_go_together" Jad:=by bv_omega
theorem Jmn:FnB "own_holds" "own_holds" Jcd:=by bv_omega
theorem Jqk:FnB "own_due" "own_due" Jfh:=by bv_omega
theorem Jmd:FnScope Qu.N Qu.ps (JV Qu.st):=scOk.of (by decide +kernel)
theorem Jl3 {C:Zm}{T:Zm}{ox:Ze}{oy:Option Zm}{nx:Nat}{sx:Array (Option Ze)}{tk1:Tok}(ha:W.findIn K (.ref C) "__init__"=Za (Za (.ref a)))(hi:W.isFn K (.ref a)=Zg)(hl:K.lookup a=Za ⟨oc,od,.func (W.fnOf "__init__" "Work.__init__" (QU Qu.st) (Qw Qu.st) (JV Qu.st) (.ref T) kV dc pm an cd ct),sl⟩)(hc:W.codeIn K cd "Work.__init__"=Zg)(hk:W.keepIn K (.ref a)=Zg)(hd:K.lookup T=Za ⟨ox,oy,.seq #[.none,.int 0 tk1,.none] nx,sx⟩)(hm:W.makesIn K C=Zg)(hq:W.keepIn K (.ref C)=Zg):∃fa fd,Mk K C fa/\DefOk K "__init__" Qu fa fd :=
 ⟨a,_,⟨hm,ha,hi,hq⟩,⟨⟨_,⟨oc,od,kV,dc,pm,an,cd,ct,sl,rfl,hl,hc⟩,hk⟩,Jmd,(by intro j hj;rcases J4h j (show j<=3 from hj) with rfl|rfl|rfl|rfl;exact⟨[.none,.int 0 tk1,.none],λ s us Y hl=>len4 (P:=λ us=>Zc7 s _ ⟨us,[]⟩ (Qu.ps.zip (us++[.none,.int 0 tk1,.none]))) (λ _ _ _ _=>.of_defaults rfl (Y T _ hd) rfl rfl rfl) us (show us.length=4 by rw[Zt] at hl;exact ZbX (m:=3) hl),rfl,[V.non,V.int 0,V.non],.cons rfl (.cons ⟨_,rfl⟩ (.cons rfl (.nil))),λ _ _=>⟨_,_,rfl,rfl,⟨_,_,rfl,rfl,⟨_,_,rfl,rfl,rfl⟩⟩⟩⟩;exact⟨[.int 0 tk1,.none],λ s us Y hl=>len5 (P:=λ us=>Zc7 s _ ⟨us,[]⟩ (Qu.ps.zip (us++[.int 0 tk1,.none]))) (λ _ _ _ _ _=>.of_defaults rfl (Y T _ hd) rfl rfl rfl) us (show us.length=5 by rw[Zt] at hl;exact ZbX (m:=2) hl),rfl,[V.int 0,V.non],.cons ⟨_,rfl⟩ (.cons rfl (.nil)),λ _ _=>⟨_,_,rfl,rfl,⟨_,_,rfl,rfl,rfl⟩⟩⟩;exact⟨[.none],λ s us Y hl=>len6 (P:=λ us=>Zc7 s _ ⟨us,[]⟩ (Qu.ps.zip (us++[.none]))) (λ _ _ _ _ _ _=>.of_defaults rfl (Y T _ hd) rfl rfl rfl) us (show us.length=6 by rw[Zt] at hl;exact ZbX (m:=1) hl),rfl,[V.non],.cons rfl (.nil),λ _ _=>⟨_,_,rfl,rfl,rfl⟩⟩;exact⟨[],λ s us Y hl=>len7 (P:=λ us=>Zc7 s _ ⟨us,[]⟩ (Qu.ps.zip (us++[]))) (λ _ _ _ _ _ _ _=>.of_defaults rfl (Y T _ hd) rfl rfl rfl) us (show us.length=7 by rw[Zt] at hl;exact ZbX (m:=0) hl),rfl,[],.nil,λ _ _=>rfl⟩)⟩⟩
theorem Jmc:FnB "held" "Work.held" Jb3:=by bv_omega
theorem Jmm:FnB "next_stop" "next_stop" Jcc:=by bv_omega
theorem Jkc:FnB "__init__" "Bench.__init__" Jbb:=by bv_omega
theorem Jed:FnB "next_ready" "Bench.next_ready" Jaa:=by bv_omega
theorem Jia:FnB "let_in" "Bench.let_in" Jap:=by bv_omega
theorem Jfo:FnB "turns_for" "Bench.turns_for" Jac:=by bv_omega
theorem Jkd:FnB "tell" "Bench.tell" Jbc:=by bv_omega
theorem Jiw:FnB "go_on" "Bench.go_on" Jax:=by bv_omega
theorem J16:FnB "run" "run" Jtt:=by bv_omega
theorem Jmo:FnB "own_works" "own_works" Jce:=by bv_omega
theorem Jnq:FnB "crowd_of" "crowd_of" Jdd:=by bv_omega
theorem Jl9:FnB "__init__" "Duty.__init__" Jb0:=by bv_omega
theorem Jma:FnB "size" "Duty.size" Jb1:=by bv_omega
theorem Jmb:FnB "work" "Duty.work" Jb2:=by bv_omega
theorem Jkf:FnB "crowd" "Duty.crowd" Jc7:=by bv_omega
theorem Jnp:FnB "ceilings" "ceilings" Jdc:=by bv_omega
theorem Jic:FnB "refuse_holds" "refuse_holds" Jar:=by bv_omega
theorem Ji1:FnB "things_held" "things_held" Ja2:=by bv_omega
theorem Jsx:FnB "lifted" "lifted" Jgw:=by bv_omega
theorem Jkg:FnB "__init__" "Order.__init__" Jbe:=by bv_omega
theorem Jgr:FnB "rank_of" "Order.rank_of" Ja9:=by bv_omega
theorem Jbl:FnB "holds" "Order.holds" VS:=by bv_omega
theorem Ja3:FnB "pick" "Order.pick" Vj:=by bv_omega
theorem Jae:FnB "standing" "Order.standing" Vk:=by bv_omega
theorem Jix:FnB "__init__" "ByRank.__init__" Jay:=by bv_omega
theorem Jf5:FnB "rank_of" "ByRank.rank_of" Jaf:=by bv_omega
theorem Jib:FnB "holds" "ByRank.holds" Jaq:=by bv_omega
theorem Jke:FnB "__init__" "ByDue.__init__" Jbd:=by bv_omega
theorem Jgq:FnB "rank_of" "ByDue.rank_of" Jak:=by bv_omega
theorem Jgp:FnB "__init__" "ByComing.__init__" Jaj:=by bv_omega
theorem Jee:FnB "rank_of" "ByComing.rank_of" Jab:=by bv_omega
theorem Ji0:FnB "_law_cell_at" "_law_cell_at" Ja1:=by bv_omega
theorem Jkh:FnB "_law_stream" "_law_stream" Jbf:=by bv_omega
theorem Jnu:FnB "_law_word" "_law_word" Jdh:=by bv_omega
theorem Jmg:FnB "_law_holds" "_law_holds" Jb6:=by bv_omega
theorem Jmi:FnB "_law_plain" "_law_plain" Jb8:=by bv_omega
theorem Jnt:FnB "_law_some" "_law_some" Jdg:=by bv_omega
theorem Jqi:FnB "_law_row" "_law_row" Jff:=by bv_omega
theorem Jmh:FnB "_law_order" "_law_order" Jb7:=by bv_omega
theorem Jns:FnB "_law_lows" "_law_lows" Jdf:=by bv_omega
theorem Jqh:FnB "_law_key" "_law_key" Jfe:=by bv_omega
theorem Jmk:FnB "_law_waits" "_law_waits" Jca:=by bv_omega
theorem Jmj:FnB "_law_turns" "_law_turns" Jb9:=by bv_omega
theorem Jmf:FnB "_law_first" "_law_first" Jb5:=by bv_omega
theorem J15:FnScope QT.N QT.ps (JV QT.st):=scOk.of (by decide +kernel)
theorem J09 (X:K.In h)(G:h.Ns Zz mg)(ha:W.nsIn K Zz "law"=Za (Za (.ref a)))(hl:K.lookup a=Za ⟨oc,od,.func (W.fnOf "law" "law" (QU QT.st) (Qw QT.st) (JV QT.st) .none kV dc pm an cd ct),sl⟩)(hc:W.codeIn K cd "law"=Zg)(hk:W.keepIn K (.ref a)=Zg):∃fa fd,mg "law"=Za (.ref fa)/\DefOk K "law" QT fa fd/\∀(s:Zl) (v:Ze),Zc7 s fd ⟨[v],[]⟩ [("_law_script",v)] :=
 ⟨a,_,W.mg_of X G ha,Jv7 (d:=QT) hl hc hk J15 rfl (len1 (λ _=>rfl)),λ s v=>.of_eq rfl⟩
theorem Xr (pg:W.plainGet K C Str.empty=Zg)(hd:W.hasDictIn K C=Zg)(po:W.plainOver K C=Zg)(sa:W.findIn K (.ref C) "__setattr__"=Za (Za (.builtin "object.__setattr__")))(h1:W.findIn K (.ref C) "__class__"=Za (Za (.builtin "object.__class__")))(h2:W.specialIn K (.builtin "object.__class__") "__get__"=Za (Za (.builtin "getset_descriptor.__get__")))(h3:W.takesIn K (.builtin "object.__class__")=Za Zg)(h4:W.mroIn K C (.type "object")=Za Zg)(n0:W.findIn K (.ref C) "append"=Za Zc)(n1:W.findIn K (.ref C) "dones"=Za Zc)(n2:W.findIn K (.ref C) "due"=Za Zc)(n3:W.findIn K (.ref C) "duty"=Za Zc)(n4:W.findIn K (.ref C) "gap"=Za Zc)(n5:W.findIn K (.ref C) "hold_tuples"=Za Zc)(n6:W.findIn K (.ref C) "join"=Za Zc)(n7:W.findIn K (.ref C) "late"=Za Zc)(n8:W.findIn K (.ref C) "later"=Za Zc)(n9:W.findIn K (.ref C) "length"=Za Zc)(n10:W.findIn K (.ref C) "name"=Za Zc)(n11:W.findIn K (.ref C) "order"=Za Zc)(n12:W.findIn K (.ref C) "place"=Za Zc)(n13:W.findIn K (.ref C) "pop"=Za Zc)(n14:W.findIn K (.ref C) "remove"=Za Zc)(n15:W.findIn K (.ref C) "row"=Za Zc)(n16:W.findIn K (.ref C) "setdefault"=Za Zc)(n17:W.findIn K (.ref C) "stretches"=Za Zc)(n18:W.findIn K (.ref C) "tops"=Za Zc)(n19:W.findIn K (.ref C) "turn"=Za Zc)(n20:W.findIn K (.ref C) "waiting"=Za Zc)(n21:W.findIn K (.ref C) "works"=Za Zc):ClsI K C/\All (λ f=>Qt K C f) T.flds :=
 ⟨⟨⟨pg,hd,po,sa⟩,h1,h2,h3,h4⟩,.cons n0 (.cons n1 (.cons n2 (.cons n3 (.cons n4 (.cons n5 (.cons n6 (.cons n7 (.cons n8 (.cons n9 (.cons n10 (.cons n11 (.cons n12 (.cons n13 (.cons n14 (.cons n15 (.cons n16 (.cons n17 (.cons n18 (.cons n19 (.cons n20 (.cons n21 (.nil))))))))))))))))))))))⟩
theorem J08 (sp:W.specialIn K (.ref C) "__getattribute__"=Za (Za (.builtin "type.__getattribute__")))(rd:W.readsIn K C (.type "type")=Zg)(fi:W.findIn K (.ref C) "__init__"=Za (Za (.ref a)))(fc:W.findCls K (.ref C) (.type "type") "__init__"=Za (.val (.ref a)))(kp:W.keepIn K (.ref a)=Zg):BasK K C:=⟨sp,rd,a,fi,fc,kp⟩
abbrev DfO (K:W.Frag)(mg:Str->Option Ze)(x:Str)(d:D4):Prop:=∃fa fd,mg x=Za (.ref fa)/\DefOk K x d fa fd
abbrev DmO (K:W.Frag)(C:Zm)(x:Str)(d:D4):Prop:=∃fa fd,Meth K C x fa/\DefOk K x d fa fd
theorem fin {prog:ZA}{w:ZW}(X:K.In h)(G:h.Ns Zz mg)(hfa:mg "law"=Za (.ref fa)){C_Work:Zm}{C_Bench:Zm}{C_Duty:Zm}{C_Order:Zm}{C_ByRank:Zm}{C_ByDue:Zm}{C_ByComing:Zm}{tk_MOST_COMINGS:Tok}{tk_AT:Tok}{tk_COME:Tok}{tk_LATE:Tok}{tk_LENGTH:Tok}{tk_MOST_LETTERS:Tok}{tk_MOST_HOLDS:Tok}{tk_THING:Tok}{tk_START:Tok}{tk_END:Tok}{tk_PLACE:Tok}{tk_FROM:Tok}{tk_MOST_WORKS:Tok}{tk_MOST_CROWD:Tok} 
  (aC_Work:W.nsIn K Zz "Work"=Za (Za (.ref C_Work)))
  (aC_Bench:W.nsIn K Zz "Bench"=Za (Za (.ref C_Bench)))
  (aC_Duty:W.nsIn K Zz "Duty"=Za (Za (.ref C_Duty)))
  (aC_Order:W.nsIn K Zz "Order"=Za (Za (.ref C_Order)))
  (aC_ByRank:W.nsIn K Zz "ByRank"=Za (Za (.ref C_ByRank)))
  (aC_ByDue:W.nsIn K Zz "ByDue"=Za (Za (.ref C_ByDue)))
  (aC_ByComing:W.nsIn K Zz "ByComing"=Za (Za (.ref C_ByComing)))
  (f_is_whole:DfO K mg "is_whole" Jde)
  (f_is_whole_from:DfO K mg "is_whole_from" Jal)
  (f_rounds_up:DfO K mg "rounds_up" Jcf)
  (f_ready:DfO K mg "ready" Jjv)
  (f_due_at:DfO K mg "due_at" Jgv)
  (f_is_coming:DfO K mg "is_coming" Jb4)
  (f_first_wrong:DfO K mg "first_wrong" Jaz)
  (f_checked:DfO K mg "checked" Jfb)
  (f_is_name:DfO K mg "is_name" Jfd)
  (f_is_hold:DfO K mg "is_hold" Jfc)
  (f_lie_apart:DfO K mg "lie_apart" Jcb)
  (f_lies_in:DfO K mg "lies_in" Jfg)
  (f_go_together:DfO K mg "go_together" Ja0)
  (f_all_go_together:DfO K mg "all_go_together" Jad)
  (f_own_holds:DfO K mg "own_holds" Jcd)
  (f_own_due:DfO K mg "own_due" Jfh)
  (f_next_stop:DfO K mg "next_stop" Jcc)
  (f_run:DfO K mg "run" Jtt)
  (f_own_works:DfO K mg "own_works" Jce)
  (f_crowd_of:DfO K mg "crowd_of" Jdd)
  (f_ceilings:DfO K mg "ceilings" Jdc)
  (f_refuse_holds:DfO K mg "refuse_holds" Jar)
  (f_things_held:DfO K mg "things_held" Ja2)
  (f_lifted:DfO K mg "lifted" Jgw)
  (f_law_cell_at:DfO K mg "_law_cell_at" Ja1)
  (f_law_stream:DfO K mg "_law_stream" Jbf)
  (f_law_word:DfO K mg "_law_word" Jdh)
  (f_law_holds:DfO K mg "_law_holds" Jb6)
  (f_law_plain:DfO K mg "_law_plain" Jb8)
  (f_law_some:DfO K mg "_law_some" Jdg)
  (f_law_row:DfO K mg "_law_row" Jff)
  (f_law_order:DfO K mg "_law_order" Jb7)
  (f_law_lows:DfO K mg "_law_lows" Jdf)
  (f_law_key:DfO K mg "_law_key" Jfe)
  (f_law_waits:DfO K mg "_law_waits" Jca)
  (f_law_turns:DfO K mg "_law_turns" Jb9)
  (f_law_first:DfO K mg "_law_first" Jb5)
  (f_law:∃fa fd,mg "law"=Za (.ref fa)/\DefOk K "law" QT fa fd/\∀(s:Zl) (v:Ze),Zc7 s fd ⟨[v],[]⟩ [("_law_script",v)])
  (i_Work:∃fa fd,Mk K C_Work fa/\DefOk K "__init__" Qu fa fd)
  (m_Work_held:DmO K C_Work "held" Jb3)
  (c_Work:ClsI K C_Work/\All (λ f=>Qt K C_Work f) T.flds)
  (i_Bench:∃fa fd,Mk K C_Bench fa/\DefOk K "__init__" Jbb fa fd)
  (m_Bench_next_ready:DmO K C_Bench "next_ready" Jaa)
  (m_Bench_let_in:DmO K C_Bench "let_in" Jap)
  (m_Bench_turns_for:DmO K C_Bench "turns_for" Jac)
  (m_Bench_tell:DmO K C_Bench "tell" Jbc)
  (m_Bench_go_on:DmO K C_Bench "go_on" Jax)
  (c_Bench:ClsI K C_Bench/\All (λ f=>Qt K C_Bench f) T.flds)
  (i_Duty:∃fa fd,Mk K C_Duty fa/\DefOk K "__init__" Jb0 fa fd)
  (m_Duty_size:DmO K C_Duty "size" Jb1)
  (m_Duty_work:DmO K C_Duty "work" Jb2)
  (m_Duty_crowd:DmO K C_Duty "crowd" Jc7)
  (c_Duty:ClsI K C_Duty/\All (λ f=>Qt K C_Duty f) T.flds)
  (i_Order:∃fa fd,Mk K C_Order fa/\DefOk K "__init__" Jbe fa fd)
  (m_Order_rank_of:DmO K C_Order "rank_of" Ja9)
  (m_Order_holds:DmO K C_Order "holds" VS)
  (m_Order_pick:DmO K C_Order "pick" Vj)
  (m_Order_standing:DmO K C_Order "standing" Vk)
  (c_Order:ClsI K C_Order/\All (λ f=>Qt K C_Order f) T.flds)
  (i_ByRank:∃fa fd,Mk K C_ByRank fa/\DefOk K "__init__" Jay fa fd)
  (m_ByRank_rank_of:DmO K C_ByRank "rank_of" Jaf)
  (m_ByRank_holds:DmO K C_ByRank "holds" Jaq)
  (m_ByRank_pick:DmO K C_ByRank "pick" Vj)
  (m_ByRank_standing:DmO K C_ByRank "standing" Vk)
  (c_ByRank:ClsI K C_ByRank/\All (λ f=>Qt K C_ByRank f) T.flds)
  (i_ByDue:∃fa fd,Mk K C_ByDue fa/\DefOk K "__init__" Jbd fa fd)
  (m_ByDue_rank_of:DmO K C_ByDue "rank_of" Jak)
  (m_ByDue_holds:DmO K C_ByDue "holds" VS)
  (m_ByDue_pick:DmO K C_ByDue "pick" Vj)
  (m_ByDue_standing:DmO K C_ByDue "standing" Vk)
  (c_ByDue:ClsI K C_ByDue/\All (λ f=>Qt K C_ByDue f) T.flds)
  (i_ByComing:∃fa fd,Mk K C_ByComing fa/\DefOk K "__init__" Jaj fa fd)
  (m_ByComing_rank_of:DmO K C_ByComing "rank_of" Jab)
  (m_ByComing_holds:DmO K C_ByComing "holds" VS)
  (m_ByComing_pick:DmO K C_ByComing "pick" Vj)
  (m_ByComing_standing:DmO K C_ByComing "standing" Vk)
  (c_ByComing:ClsI K C_ByComing/\All (λ f=>Qt K C_ByComing f) T.flds)
  (g_MOST_COMINGS:W.nsIn K Zz "MOST_COMINGS"=Za (Za (.int 200 tk_MOST_COMINGS)))
  (g_AT:W.nsIn K Zz "AT"=Za (Za (.int 0 tk_AT)))
  (g_COME:W.nsIn K Zz "COME"=Za (Za (.int 1 tk_COME)))
  (g_LATE:W.nsIn K Zz "LATE"=Za (Za (.int 2 tk_LATE)))
  (g_LENGTH:W.nsIn K Zz "LENGTH"=Za (Za (.int 3 tk_LENGTH)))
  (g_MOST_LETTERS:W.nsIn K Zz "MOST_LETTERS"=Za (Za (.int 8 tk_MOST_LETTERS)))
  (g_MOST_HOLDS:W.nsIn K Zz "MOST_HOLDS"=Za (Za (.int 6 tk_MOST_HOLDS)))
  (g_THING:W.nsIn K Zz "THING"=Za (Za (.int 0 tk_THING)))
  (g_START:W.nsIn K Zz "START"=Za (Za (.int 1 tk_START)))
  (g_END:W.nsIn K Zz "END"=Za (Za (.int 2 tk_END)))
  (g_PLACE:W.nsIn K Zz "PLACE"=Za (Za (.int 0 tk_PLACE)))
  (g_FROM:W.nsIn K Zz "FROM"=Za (Za (.int 1 tk_FROM)))
  (g_MOST_WORKS:W.nsIn K Zz "MOST_WORKS"=Za (Za (.int 12 tk_MOST_WORKS)))
  (g_MOST_CROWD:W.nsIn K Zz "MOST_CROWD"=Za (Za (.int 80 tk_MOST_CROWD)))
  (k_Work_NoneType:W.kitOne K (.type "NoneType") (.ref C_Work)=Za Zj)
  (k_Work_bool:W.kitOne K (.type "bool") (.ref C_Work)=Za Zj)
  (k_Work_int:W.kitOne K (.type "int") (.ref C_Work)=Za Zj)
  (k_Work_str:W.kitOne K (.type "str") (.ref C_Work)=Za Zj)
  (k_Work_list:W.kitOne K (.type "list") (.ref C_Work)=Za Zj)
  (k_Work_tuple:W.kitOne K (.type "tuple") (.ref C_Work)=Za Zj)
  (k_Work_dict:W.kitOne K (.type "dict") (.ref C_Work)=Za Zj)
  (k_Work_Work:W.kitOne K (.ref C_Work) (.ref C_Work)=Za (memS "Work" ["Work"]))
  (k_Work_Bench:W.kitOne K (.ref C_Bench) (.ref C_Work)=Za (memS "Bench" ["Work"]))
  (k_Work_Duty:W.kitOne K (.ref C_Duty) (.ref C_Work)=Za (memS "Duty" ["Work"]))
  (k_Work_Order:W.kitOne K (.ref C_Order) (.ref C_Work)=Za (memS "Order" ["Work"]))
  (k_Work_ByRank:W.kitOne K (.ref C_ByRank) (.ref C_Work)=Za (memS "ByRank" ["Work"]))
  (k_Work_ByDue:W.kitOne K (.ref C_ByDue) (.ref C_Work)=Za (memS "ByDue" ["Work"]))
  (k_Work_ByComing:W.kitOne K (.ref C_ByComing) (.ref C_Work)=Za (memS "ByComing" ["Work"]))
  (z_all:W.nsIn K Zz "all"=Za Zc)
  (z_bool:W.nsIn K Zz "bool"=Za Zc)
  (z_enumerate:W.nsIn K Zz "enumerate"=Za Zc)
  (z_int:W.nsIn K Zz "int"=Za Zc)
  (z_isinstance:W.nsIn K Zz "isinstance"=Za Zc)
  (z_len:W.nsIn K Zz "len"=Za Zc)
  (z_list:W.nsIn K Zz "list"=Za Zc)
  (z_max:W.nsIn K Zz "max"=Za Zc)
  (z_min:W.nsIn K Zz "min"=Za Zc)
  (z_range:W.nsIn K Zz "range"=Za Zc)
  (z_set:W.nsIn K Zz "set"=Za Zc)
  (z_sorted:W.nsIn K Zz "sorted"=Za Zc)
  (z_str:W.nsIn K Zz "str"=Za Zc)
  (z_sum:W.nsIn K Zz "sum"=Za Zc)
  (z_tuple:W.nsIn K Zz "tuple"=Za Zc)
  (bs_Order:BasK K C_Order)
  : ∃fd:ZaD,(∀(s:Zl) (v:Ze),Zc7 s fd ⟨[v],[]⟩ [("_law_script",v)])/\∀base:Zas,K.In base->base.Ns Zz mg->Q9 mg base->FnOk prog w K mg base (CXI prog w) 64 fa fd ["_law_script"] (XT K "_law_script" (X2 16)):=by
 obtain⟨fa',fd,hm,ok,hb⟩:=f_law
 have e:=hfa.symm.trans hm
 cases e
 have O:TabOk (ceOf [("Work",C_Work),("Bench",C_Bench),("Duty",C_Duty),("Order",C_Order),("ByRank",C_ByRank),("ByDue",C_ByDue),("ByComing",C_ByComing)]) T K mg:=J2c _
  (.cons (f_is_whole) (.cons (f_is_whole_from) (.cons (f_rounds_up) (.cons (f_ready) (.cons (f_due_at) (.cons (f_is_coming) (.cons (f_first_wrong) (.cons (f_checked) (.cons (f_is_name) (.cons (f_is_hold) (.cons (f_lie_apart) (.cons (f_lies_in) (.cons (f_go_together) (.cons (f_all_go_together) (.cons (f_own_holds) (.cons (f_own_due) (.cons (f_next_stop) (.cons (f_run) (.cons (f_own_works) (.cons (f_crowd_of) (.cons (f_ceilings) (.cons (f_refuse_holds) (.cons (f_things_held) (.cons (f_lifted) (.cons (f_law_cell_at) (.cons (f_law_stream) (.cons (f_law_word) (.cons (f_law_holds) (.cons (f_law_plain) (.cons (f_law_some) (.cons (f_law_row) (.cons (f_law_order) (.cons (f_law_lows) (.cons (f_law_key) (.cons (f_law_waits) (.cons (f_law_turns) (.cons (f_law_first) (.cons (⟨_,_,hm,ok⟩) (.nil)))))))))))))))))))))))))))))))))))))))
  (.cons ((let ⟨fa,fd,p,q⟩:=i_Work;⟨C_Work,fa,fd,W.mg_of X G aC_Work,by kernel_rfl,p,q⟩)) (.cons ((let ⟨fa,fd,p,q⟩:=i_Bench;⟨C_Bench,fa,fd,W.mg_of X G aC_Bench,by kernel_rfl,p,q⟩)) (.cons ((let ⟨fa,fd,p,q⟩:=i_Duty;⟨C_Duty,fa,fd,W.mg_of X G aC_Duty,by kernel_rfl,p,q⟩)) (.cons ((let ⟨fa,fd,p,q⟩:=i_Order;⟨C_Order,fa,fd,W.mg_of X G aC_Order,by kernel_rfl,p,q⟩)) (.cons ((let ⟨fa,fd,p,q⟩:=i_ByRank;⟨C_ByRank,fa,fd,W.mg_of X G aC_ByRank,by kernel_rfl,p,q⟩)) (.cons ((let ⟨fa,fd,p,q⟩:=i_ByDue;⟨C_ByDue,fa,fd,W.mg_of X G aC_ByDue,by kernel_rfl,p,q⟩)) (.cons ((let ⟨fa,fd,p,q⟩:=i_ByComing;⟨C_ByComing,fa,fd,W.mg_of X G aC_ByComing,by kernel_rfl,p,q⟩)) (.nil))))))))
  (.cons (⟨C_Work,by kernel_rfl,.cons (m_Work_held) (.nil)⟩) (.cons (⟨C_Bench,by kernel_rfl,.cons (m_Bench_next_ready) (.cons (m_Bench_let_in) (.cons (m_Bench_turns_for) (.cons (m_Bench_tell) (.cons (m_Bench_go_on) (.nil)))))⟩) (.cons (⟨C_Duty,by kernel_rfl,.cons (m_Duty_size) (.cons (m_Duty_work) (.cons (m_Duty_crowd) (.nil)))⟩) (.cons (⟨C_Order,by kernel_rfl,.cons (m_Order_rank_of) (.cons (m_Order_holds) (.cons (m_Order_pick) (.cons (m_Order_standing) (.nil))))⟩) (.cons (⟨C_ByRank,by kernel_rfl,.cons (m_ByRank_rank_of) (.cons (m_ByRank_holds) (.cons (m_ByRank_pick) (.cons (m_ByRank_standing) (.nil))))⟩) (.cons (⟨C_ByDue,by kernel_rfl,.cons (m_ByDue_rank_of) (.cons (m_ByDue_holds) (.cons (m_ByDue_pick) (.cons (m_ByDue_standing) (.nil))))⟩) (.cons (⟨C_ByComing,by kernel_rfl,.cons (m_ByComing_rank_of) (.cons (m_ByComing_holds) (.cons (m_ByComing_pick) (.cons (m_ByComing_standing) (.nil))))⟩) (.nil))))))))
  (.cons (⟨_,.int 200,W.mg_of X G g_MOST_COMINGS,⟨tk_MOST_COMINGS,rfl⟩,λ _ _=>rfl⟩) (.cons (⟨_,.int 0,W.mg_of X G g_AT,⟨tk_AT,rfl⟩,λ _ _=>rfl⟩) (.cons (⟨_,.int 1,W.mg_of X G g_COME,⟨tk_COME,rfl⟩,λ _ _=>rfl⟩) (.cons (⟨_,.int 2,W.mg_of X G g_LATE,⟨tk_LATE,rfl⟩,λ _ _=>rfl⟩) (.cons (⟨_,.int 3,W.mg_of X G g_LENGTH,⟨tk_LENGTH,rfl⟩,λ _ _=>rfl⟩) (.cons (⟨_,.int 8,W.mg_of X G g_MOST_LETTERS,⟨tk_MOST_LETTERS,rfl⟩,λ _ _=>rfl⟩) (.cons (⟨_,.int 6,W.mg_of X G g_MOST_HOLDS,⟨tk_MOST_HOLDS,rfl⟩,λ _ _=>rfl⟩) (.cons (⟨_,.int 0,W.mg_of X G g_THING,⟨tk_THING,rfl⟩,λ _ _=>rfl⟩) (.cons (⟨_,.int 1,W.mg_of X G g_START,⟨tk_START,rfl⟩,λ _ _=>rfl⟩) (.cons (⟨_,.int 2,W.mg_of X G g_END,⟨tk_END,rfl⟩,λ _ _=>rfl⟩) (.cons (⟨_,.int 0,W.mg_of X G g_PLACE,⟨tk_PLACE,rfl⟩,λ _ _=>rfl⟩) (.cons (⟨_,.int 1,W.mg_of X G g_FROM,⟨tk_FROM,rfl⟩,λ _ _=>rfl⟩) (.cons (⟨_,.int 12,W.mg_of X G g_MOST_WORKS,⟨tk_MOST_WORKS,rfl⟩,λ _ _=>rfl⟩) (.cons (⟨_,.int 80,W.mg_of X G g_MOST_CROWD,⟨tk_MOST_CROWD,rfl⟩,λ _ _=>rfl⟩) (.nil)))))))))))))))
  (.cons (c_Work) (.cons (c_Bench) (.cons (c_Duty) (.cons (c_Order) (.cons (c_ByRank) (.cons (c_ByDue) (.cons (c_ByComing) (.nil))))))))
  (.cons (⟨C_Work,W.mg_of X G aC_Work,k_Work_NoneType,k_Work_bool,k_Work_int,k_Work_str,k_Work_list,k_Work_tuple,k_Work_dict,.cons (k_Work_Work) (.cons (k_Work_Bench) (.cons (k_Work_Duty) (.cons (k_Work_Order) (.cons (k_Work_ByRank) (.cons (k_Work_ByDue) (.cons (k_Work_ByComing) (.nil)))))))⟩) (.nil))
  (.cons (W.mg_none_of X G z_all) (.cons (W.mg_none_of X G z_bool) (.cons (W.mg_none_of X G z_enumerate) (.cons (W.mg_none_of X G z_int) (.cons (W.mg_none_of X G z_isinstance) (.cons (W.mg_none_of X G z_len) (.cons (W.mg_none_of X G z_list) (.cons (W.mg_none_of X G z_max) (.cons (W.mg_none_of X G z_min) (.cons (W.mg_none_of X G z_range) (.cons (W.mg_none_of X G z_set) (.cons (W.mg_none_of X G z_sorted) (.cons (W.mg_none_of X G z_str) (.cons (W.mg_none_of X G z_sum) (.cons (W.mg_none_of X G z_tuple) (.nil))))))))))))))))
  (.cons (⟨C_Order,W.mg_of X G aC_Order,bs_Order⟩) (.nil))
 exact⟨fd,hb,λ base _ _ B=>Jye O (λ _=>B) 16 rfl ok⟩
end
end LW
open PySem L2
theorem LW.walk {l:W.OpenLaw}{q:ZA}{loose:List Str}{XP:(Str->Option Ze)->Zas->Prop}{YP:ZW->Zas->Prop}{d:DefRec}{K:Params->W.Frag}{ts:List Zm}(hn:l.most=Za 63)(hdf:d.params.defaults=[]) 
  (hY:∀(w:ZW) (h:Zas),YP w h->(K w.params).In h/\∀p∈ts,h.get? p=Za (W.tabObj #[]))(hc:∀w:ZW,L4.Ve (K w.params) ["Order.pick","Bench.__init__"] ts=Zg)
  (F:∀(w:ZW)(mg:Str->Option Ze)(fa:Zm)(h:Zas),(K w.params).In h->h.Ns Zz mg->mg d.name=Za (.ref fa) ->
   ∃fd:ZaD,(∀(s:Zl) (u:Ze),Zc7 s fd ⟨[u],[]⟩ [("_law_script",u)])/\∀base:Zas,(K w.params).In base->base.Ns Zz mg->L3.Q9 mg base->FnOk l.prog w (K w.params) mg base (L3.CXI l.prog w) 64 fa fd ["_law_script"] (L3.XT (K w.params) "_law_script" (LW.X2 16))) :
  W.WalkO q loose XP YP l.row.toRowW d [] (λ f vs=>PySem.call f vs) :=
 L4.Jvn (n:=63) (k:=64) (x:="_law_script") (f:=LW.X2 16) (qs:=["Order.pick","Bench.__init__"]) (ts:=ts) hn (by decide) hdf ⟨rfl,by decide,by decide⟩ hY hc F λ ns hl=>LW.Juj ns hl
open PySem PySem.W PyProof.Rows
structure PySem.W.Fast:Prop where (tw16435094514451977301 tw1639716770579455361 tw1795798119658572329 tw8011552261946619523 tw8865338200387537583 tw5493418012288711058 tw11289492914554982207 tw13891055545028679668 tw8433864294996886121 tw13203715246359255594
tw13235447588769631605 tw8608423751498208993 tw8603119255871448290 tw8559643707381089627 tw11672693928751757021 tw6433256843189698073 tw16442315984064077235 tw891524545626330218 tw4292134590439894892 tw3198510678874356781
tw12375022008586301333 tw2546038765994247738 tw911938023339267472 tw993897812057335863 tw4947152917468456165 tw10299147205916066391 tw14845322566880381130 tw16810831199759152728 tw2295243701047657384 tw9778702607628672684
tw17512335573961355158 tw6955538366104863406 tw14678076806638749494 tw7971938481086550510 tw10766991337449799306 tw5125889162596816107 tw9681134762429546105 tw4353476892513386112 tw105626514695771395 tw10498157588494908310
tw17747324265500053872 tw32968620393146581 tw6280995451782400859 tw12649919388926312830 tw16762332831718612549 tw2379937146122900387 tw6519654280249571000 tw17063205029587626734 tw488155097578255803 tw8468240531005138337
tw1206148566875554702 tw8456393355766902106 tw1972857035159035645 tw12751528310937164943 tw14199344456632366407 tw6308924362339845735 tw6853772698645346676 tw18141829823541066065 tw704622058014275861 tw13796067203889435149
tw12814427794771841809 tw11875299968859009493 tw16175441729640211972 tw5168988423260867123 tw12294072406095124870 tw12207391001947587691 tw5810251286477846973 tw11812289189928579656 tw3929076748262524279 tw41561975568926966
tw15791901010629218508 tw5008319537161181943 tw11264884775770686998 tw6252036639792385517 tw2550628387374173796 tw12381575112100696579 tw14108794463208168421 tw17806040594645401048 tw14755645044637864481 tw4178412724108124401
tw5189497712773653821 tw1121763364539858571 tw3496328781100668378 tw10887582417697163346 tw7170872108672170178 tw6447814590767204496 tw8210520897260614387 tw9999744761180893048 tw434645692764064019 tw18133173785643702480
tw14251434376675402606 tw9558086060453974394 tw1463759579872461842 tw7186186052082203760 tw13128015608693940317 tw10612122061880800939 tw13183965549568622831 tw16755751825777753105 tw12868947449095968425 tw2177828444796749899
tw10098208370329188053 tw16747147715292011430 tw16141027984183401631 tw4327187125971614208 tw14954883804606333745 tw10148638265986624692 tw16121699879770260529 tw14589373773977875106 tw7199159473829004201 tw9000207219835988468
tw1527878815425825002 tw11472449953349491407 tw15220904285511845979 tw12686443720750560610 tw10604969565161496022 tw9614664485678171099 tw15471376468227538344 tw14843001745096728183 tw2043345969134382667 tw4102470583522100175
tw10044366204611168009 tw16048183802893609383 tw8544617775632164064 tw9350928597493210812 tw4579537489210146930 tw11409065709894019489 tw560401883842223027 tw1984796995086076057 tw7381980792011399025 tw2633285096114641699
tw11256357423184755273 tw11893129482138816368 tw2975157173082067230 tw4685689452315438965 tw13858911917895509472 tw8342378495703184384 tw7009536012658798329 tw9201718824765016382 tw11062189046937911664 tw10933210685888490949
tw16745011704364164230 tw15561717010390331793 tw12582355716848592421 tw7411655525032107162 tw15177144378228886269 tw6279856334800045755 tw8369315198049548286 tw17684153461010110044 tw2239118345662930358 tw6961712501106330671
tw5445143259265461443 tw13596580194045246452 tw4577277285068225127 tw10886415644655904120 tw9163291649571371648 tw5213842512856295689 tw12870127080490022575 tw8199290668614194220 tw9814400593599457440 tw15634032473771206374
tw15219503671164061932 tw13935341417728208416 tw10342144902646198489 tw17439335427564939348 tw15558281553809800319 tw16404579756004093671 tw8282555535254638233 tw14849677406873398613 tw8594099797821528016 tw16191466628904828834
tw3371835177775942967 tw658162952701651115 tw10873658584592947435 tw5311321978385575894 tw6636595344783795583 tw1274794551053889108 tw13504491091189531065 tw12600536706461545076 tw6618698166491171165 tw8109469973038594919
tw2829138619882075100 tw13361262772075206455 tw18375716155029988914 tw3824503476640021692 tw481951960666088607 tw5903245529133599162 tw9520570605636466551 tw3719235392716769110 tw16998906538194782087 tw260326215429566948
tw14681424586830863168 tw8346607886932905994 tw8425581473318521372 tw3467571408772997940 tw5986991483271966000 tw15615475955943947002 tw3449108283860170225 tw602177355422966558 tw2519087182970941358 tw11245295205151383172
tw9136281439626884467 tw8490871737532731973 tw12570902465018183688 tw9947812317968164785 tw866422385913843093 tw7079878088968906734 tw16165759029161436248 tw6773601901414350501 tw15319255068367661366 tw14370154566870553857
tw9117878957548266414 tw8878557854587556286 tw5998893674071842456 tw7131047374405862982 tw5002713301069979053 tw11389014629958655317 tw11977409910350658154 tw15147797258438714664 tw3198210892996194816 tw16422881302874227677
tw16233899762199312528 tw4751190021161688406 tw18282464043966933982 tw16402495201984179616 tw18285383819196462825 tw11627433352355512803 tw309277966367331591 tw10302468159717171657 tw1107818942738028837 tw11712890801700113257
tw15764811558723101421 tw9996317127323256238 tw3916616533034645272 tw10502002797977771320 tw4845400112775590378 tw4725472961213238784 tw1183013460392992630 tw6282190183036674334 tw12545226926219607433 tw1129680525994365650
tw4690801784901129199 tw15068860730833884423 tw2962099429526333901 tw16055302127209695777 tw3044137431504818338 tw12300211633701128268 tw13577246232550905154 tw907583416912751582 tw5927414874572746538 tw9745757389524912646
tw8218858581251252049 tw9462151179011702085 tw638779756171740745 tw18356835489366778632 tw4131154495016349626 tw13979232242146616395 tw14384156540350226827 tw14675480291921690076 tw3571593624136134541 tw5308129501534459981
tw18108541590996748788 tw10708730601708651425 tw17980109736787099806 tw13350374476255716687 tw8704271222342498772 tw2201730926047408375 tw2573739603651423463 tw1916977681657871233 tw7021361561036475547 tw4336467904175877844
tw18264189150323904065 tw2927609916802966931 tw4605078146252040643 tw17335982625078571239 tw15856234041061329103 tw12618846781651476190 tw4664226719445711721 tw13766014739190826827 tw4212332284987951515 tw13451941367067203372
tw12726706034351576286 tw290390897615833877 tw7039927710234626036 tw6503840766490017434 tw4414657128217244627 tw8556850391424190099 tw2202247012951183400 tw15732092333238318594 tw9688266630995999430 tw569156024908950925
tw1450666696792464337 tw16050043380420529777 tw12906262368334105469 tw4311991559272352661 tw15877312293149512524 tw16202899407628157076 tw257700439650627762 tw16357663679631916716 tw5016525276205880418 tw7709461619440589248
tw12232559442306196937 tw4079378039046616290 tw1254833826544128878 tw11993271645337219740 tw1065464793976500433 tw631881002187012322 tw902659419527727676 tw11245087004730762543 tw9862148706391588056 tw1252222075296237509
tw6238494999199798880 tw545865630299897544 tw11607698898321156098 tw17274506736015994442 tw16772062605153307237 tw2008924765213981615 tw8297852838986306568 tw10505548512462035803 tw16838321602278381695 tw16509756461746680866
tw10411916698551808180 tw6953325784599786467 tw4261313266009779362 tw14127099627530047593 tw15162696208503622617 tw15536760632440120408 tw8905849196835633358 tw5300356468053599989 tw1906539113598976477 tw8738129476159313770
tw18191957863994630822 tw2470293810736552774 tw14056578703599372579 tw6003786530868610037 tw1764031259442429769 tw260788243191376092 tw8318831384724254504 tw6560924781482130824 tw9043869469739319877 tw15840783618538515378
tw5420611655913173480 tw17429328337550569516 tw695679877113794616 tw15052944506830130361 tw9013933136857410140 tw15955649791144033908 tw211663557956715693 tw14532943246412635449 tw533128663554796722 tw18187581794320647412
tw11762661913141365025 tw13017304895564549327 tw9241451331617662242 tw4519282408268169042 tw5191637144355156216 tw11997573839042289741 tw9728060818753176067 tw5247745684084534718 tw5847724017874481025 tw5268990086023587502
tw6609702380336642286 tw5168258302846330033 tw12311678289991153221 tw2937245518969161037 tw2096454256460903391 tw7805482880746214858 tw6320718702263034870 tw1704450195870820121 tw14649038688191142573 tw11669803830188798435
tw7542766606285098528 tw11315773355210684007 tw752416627146838555 tw4023601826152735975 tw393492777142475202 tw2515265766006025012 tw15036254532078470761 tw17643287204548963111 tw11550252123076142757 tw887790639073266052
tw13560655268896038895 tw8973409954295733634 tw4549677570236716878 tw6745520850537524852 tw5875595485016644469 tw10426031490746676548 tw5016775085476582653 tw14513814125950731931 tw8673402295543500403 tw15577922746483922996
tw7590312050109823582 tw15080292293453781392 tw15878662081908824608 tw13384436088382854186 tw748021938345337683 tw10358876098867546553 tw3052668864153755162 tw11809730297038098761 tw10950314448058451979 tw8566144427041176286
tw4472162723928551857 tw13733907303998414227 tw543506941094031784 tw15735378322531826015 tw7854030918668632686 tw11740477039950218045 tw3755022162590283675 tw9347390210320447688 tw8043575172171346990 tw1397036869770156317
tw10086161306462601457 tw3050339573112672775 tw7096488980905482561 tw7537690007556773844 tw12283838041547051396 tw13430690994384372653 tw4847867249316383397 tw13512139611768452117 tw1944648906694748203 tw3623546382699443635
tw15177967548420810628 tw7987718759566491033 tw7884881173031725059 tw3370708644205829059 tw6910717760099821813 tw7246828079335108207 tw12093277062590598854 tw10312106047151718135 tw1636115883844037466 tw913365540484190121
tw14086766817530773240 tw1708463545140698414 tw2221045921561836702 tw15274564523073369832 tw2933903897741755362 tw237624666275635371 tw17847731221055125625 tw15979778577584855211 tw12384300405936716039 tw16996872296187189849
tw8444288356092861413 tw14331323467110319270 tw12711719874058262928 tw17965864582501665885 tw1996005885291341288 tw13698668513775570889 tw15040183321148281600 tw17019777734699452610 tw6925201340403311054 tw17582375036817514096
tw9140642551838007799 tw18234495487598697880 tw6072807395646344816 tw7044724904754771141 tw11648505022258293057 tw4603054602305458043 tw14408900773068444249 tw4827964190137207713 tw13082174914189459767 tw5236056621060910447
tw10330110105453608949 tw3026344924235469123 tw6106638955550342037 tw4356533024835432506 tw7960804325368267133 tw1472325550122596929 tw13865841827905401241 tw9172375961637272004 tw6525735680161163222 tw1984408508003708961
tw12286703107108585637 tw14167675153274105231 tw8622227831205546348 tw17519611221724728102 tw2989694517986049351 tw10715246401924165843 tw2204097188725481749 tw12598668058699796280 tw17126800450366810643 tw15402694421966280139
tw15502663636875267865 tw5195328917350021855 tw2493414950352085409 tw3323065809859586319 tw4532961774870895448 tw7421481323157151034 tw18298014665486504536 tw7229243517963413603 tw5546631882264901654 tw12312734878800205971
tw9671127524134525187 tw5002121666020071998 tw9447780468718072975 tw7536254766510778393 tw12918191105395279196 tw6674720874159882892 tw4763897546310214817 tw16162421846446991417 tw15793757564925223873 tw4140998015597723364
tw12527799036481930990 tw3965197709922261097 tw691817600492770180 tw18346821396211055100 tw14193629685799406060 tw10504890249854262232 tw8438514267658402822 tw3451322768420772995 tw6109236721738773440 tw14392534944676897407
tw452153058663162474 tw15863677769638738983 tw5112061420400014062 tw5689988985171764528 tw9879849528506583934 tw16898156584678073363 tw16635032223191189871 tw9113002481652512389 tw2543767895881025736 tw10656335373937024578
tw14250151806073107705 tw15255897867985603094 tw5119523515494555621 tw15262618831880541006 tw13640193412818937492 tw10083687344680883709 tw10229615186963633040 tw5889059265806074571 tw2792603599072006374 tw16809379900457967674
tw16669831247805423370 tw11480789613964045539 tw13247375453350077140 tw13224317251440321888 tw5472579927591315676 tw5044398502048763546 tw17281886046009248371 tw8024513159842125654 tw7244140786475953623 tw89114543844381691
tw5177268440684466581 tw5066495030842467704 tw10188238035661273085:True)
set_option maxRecDepth 100000 in
set_option maxHeartbeats 0 in
theorem PySem.Challenge.cw_dutyproof_k34_whole_run_by_an_order_holds : PySem.Challenge.rw_dutyproof_k34_whole_run_by_an_order.Holds := by
 w_on;o_law;k_head;(case hw=>w_witness2)
 k_fill
 refine LW.walk (l:=PySem.Challenge.rw_dutyproof_k34_whole_run_by_an_order) rfl rfl (λ w h Y=>⟨W.km_in_of Y,W.km_tabs_of Y⟩) ?HC ?F
 case HC=>exact λ w=>by kernel_rfl
 case F =>
  intro w mg fa h KX G hmg
  refine' LW.fin KX G hmg ?aA ?aB ?aD ?aE ?aF ?aG ?aH ?aI ?aJ ?aK ?aL ?aM ?aN ?aO ?aP ?aQ ?aR ?aS ?aT ?aU ?aV ?aW ?aX ?aY ?aZ ?bA ?bB ?bC ?bD ?bE ?bF ?bG ?bH ?bI ?bJ ?bK ?bL ?bM ?bN ?bO ?bP ?bQ ?bR ?bS ?bT ?bU ?bV ?bW ?bX ?bY ?bZ ?cA ?cB ?cC ?cD ?cE ?cF ?cG ?cH ?cI ?cJ ?cL ?cM ?cN ?cO ?cP ?cQ ?cR ?cT ?cU ?cV ?cW ?cX ?cY ?cZ ?dA ?dB ?dC ?dD ?dE ?dF ?dG ?dH ?dI ?dJ ?dK ?dL ?dM ?dN ?dO ?dP ?dQ ?dR ?dS ?dT ?dU ?dV ?dW ?dX ?dY ?dZ ?eA ?eB ?eC ?eD ?eE ?eF ?eG ?eH ?eI ?eJ ?eK ?eL ?eM ?eN ?eO ?eP ?eQ ?eR ?eS ?eT ?eU ?eV ?eW ?eX ?eY ?eZ ?fA
  (case aA|aB|aD|aE|aF|aG|aH=>k_is)
  (case aI=>exact L4.J4 KX G LW.Jnr)
  (case aJ=>exact L4.J4 KX G LW.Jgs)
  (case aK=>exact L4.J4 KX G LW.Jmp)
  (case aL=>exact L4.J4 KX G LW.Ju1)
  (case aM=>exact L4.J4 KX G LW.Jsw)
  (case aN=>exact L4.J4 KX G LW.Jme)
  (case aO=>exact L4.J4 KX G LW.Jiy)
  (case aP=>exact L4.J4 KX G LW.Jqe)
  (case aQ=>exact L4.J4 KX G LW.Jqg)
  (case aR=>exact L4.J4 KX G LW.Jqf)
  (case aS=>exact L4.J4 KX G LW.Jml)
  (case aT=>exact L4.J4 KX G LW.Jqj)
  (case aU=>exact L4.J4 KX G LW.Jiz)
  (case aV=>exact L4.J4 KX G LW.Jfp)
  (case aW=>exact L4.J4 KX G LW.Jmn)
  (case aX=>exact L4.J4 KX G LW.Jqk)
  (case aY=>exact L4.J4 KX G LW.Jmm)
  (case aZ=>exact L4.J4 KX G LW.J16)
  (case bA=>exact L4.J4 KX G LW.Jmo)
  (case bB=>exact L4.J4 KX G LW.Jnq)
  (case bC=>exact L4.J4 KX G LW.Jnp)
  (case bD=>exact L4.J4 KX G LW.Jic)
  (case bE=>exact L4.J4 KX G LW.Ji1)
  (case bF=>exact L4.J4 KX G LW.Jsx)
  (case bG=>exact L4.J4 KX G LW.Ji0)
  (case bH=>exact L4.J4 KX G LW.Jkh)
  (case bI=>exact L4.J4 KX G LW.Jnu)
  (case bJ=>exact L4.J4 KX G LW.Jmg)
  (case bK=>exact L4.J4 KX G LW.Jmi)
  (case bL=>exact L4.J4 KX G LW.Jnt)
  (case bM=>exact L4.J4 KX G LW.Jqi)
  (case bN=>exact L4.J4 KX G LW.Jmh)
  (case bO=>exact L4.J4 KX G LW.Jns)
  (case bP=>exact L4.J4 KX G LW.Jqh)
  (case bQ=>exact L4.J4 KX G LW.Jmk)
  (case bR=>exact L4.J4 KX G LW.Jmj)
  (case bS=>exact L4.J4 KX G LW.Jmf)
  (case bT=>(refine' LW.J09 KX G ?fB ?fC ?fD ?fE;(case fB|fC|fD|fE=>k_is)))
  (case bU=>(refine' LW.Jl3 ?fF ?fG ?fH ?fI ?fJ ?fK ?fL ?fM;(case fF|fG|fH|fI|fJ|fK|fL|fM=>k_is)))
  (case bV=>exact L4.JH LW.Jmc)
  (case bW=>(refine' LW.Xr ?fN ?fO ?fP ?fQ ?fR ?fS ?fT ?fU ?fV ?fW ?fX ?fY ?fZ ?gA ?gB ?gC ?gD ?gE ?gF ?gG ?gH ?gI ?gJ ?gK ?gL ?gM ?gN ?gO ?gP ?gQ;(case fN|fO|fP|fQ|fR|fS|fT|fU|fV|fW|fX|fY|fZ|gA|gB|gC|gD|gE|gF|gG|gH|gI|gJ|gK|gL|gM|gN|gO|gP|gQ=>k_is)))
  (case bX=>exact L4.XC LW.Jkc)
  (case bY=>exact L4.JH LW.Jed)
  (case bZ=>exact L4.JH LW.Jia)
  (case cA=>exact L4.JH LW.Jfo)
  (case cB=>exact L4.JH LW.Jkd)
  (case cC=>exact L4.JH LW.Jiw)
  (case cD=>(refine' LW.Xr ?gR ?gS ?gT ?gU ?gV ?gW ?gX ?gY ?gZ ?iA ?iB ?iC ?iD ?iE ?iF ?iG ?iH ?iI ?iJ ?iK ?iL ?iM ?iN ?iO ?iP ?iQ ?iR ?iS ?iT ?iU;(case gR|gS|gT|gU|gV|gW|gX|gY|gZ|iA|iB|iC|iD|iE|iF|iG|iH|iI|iJ|iK|iL|iM|iN|iO|iP|iQ|iR|iS|iT|iU=>k_is)))
  (case cE=>exact L4.XC LW.Jl9)
  (case cF=>exact L4.JH LW.Jma)
  (case cG=>exact L4.JH LW.Jmb)
  (case cH=>exact L4.JH LW.Jkf)
  (case cI=>(refine' LW.Xr ?iV ?iW ?iX ?iY ?iZ ?jA ?jB ?jC ?jD ?jE ?jF ?jG ?jH ?jI ?jJ ?jK ?jL ?jM ?jN ?jO ?jP ?jQ ?jR ?jS ?jT ?jU ?jV ?jW ?jX ?jY;(case iV|iW|iX|iY|iZ|jA|jB|jC|jD|jE|jF|jG|jH|jI|jJ|jK|jL|jM|jN|jO|jP|jQ|jR|jS|jT|jU|jV|jW|jX|jY=>k_is)))
  (case cJ=>exact L4.XC LW.Jkg)
  (case cL=>exact L4.JH LW.Jgr)
  (case cM=>exact L4.JH LW.Jbl)
  (case cN=>exact L4.JH LW.Ja3)
  (case cO=>exact L4.JH LW.Jae)
  (case cP=>(refine' LW.Xr ?jZ ?lA ?lB ?lC ?lD ?lE ?lF ?lG ?lH ?lI ?lJ ?lK ?lL ?lM ?lN ?lO ?lP ?lQ ?lR ?lS ?lT ?lU ?lV ?lW ?lX ?lY ?lZ ?mA ?mB ?mC;(case jZ|lA|lB|lC|lD|lE|lF|lG|lH|lI|lJ|lK|lL|lM|lN|lO|lP|lQ|lR|lS|lT|lU|lV|lW|lX|lY|lZ|mA|mB|mC=>k_is)))
  (case cQ=>exact L4.XC LW.Jix)
  (case cR=>exact L4.JH LW.Jf5)
  (case cT=>exact L4.JH LW.Jib)
  (case cU=>exact L4.JH LW.Ja3)
  (case cV=>exact L4.JH LW.Jae)
  (case cW=>(refine' LW.Xr ?mD ?mE ?mF ?mG ?mH ?mI ?mJ ?mK ?mL ?mM ?mN ?mO ?mP ?mQ ?mR ?mS ?mT ?mU ?mV ?mW ?mX ?mY ?mZ ?nA ?nB ?nD ?nE ?nF ?nG ?nH;(case mD|mE|mF|mG|mH|mI|mJ|mK|mL|mM|mN|mO|mP|mQ|mR|mS|mT|mU|mV|mW|mX|mY|mZ|nA|nB|nD|nE|nF|nG|nH=>k_is)))
  (case cX=>exact L4.XC LW.Jke)
  (case cY=>exact L4.JH LW.Jgq)
  (case cZ=>exact L4.JH LW.Jbl)
  (case dA=>exact L4.JH LW.Ja3)
  (case dB=>exact L4.JH LW.Jae)
  (case dC=>(refine' LW.Xr ?nI ?nJ ?nL ?nM ?nN ?nO ?nP ?nQ ?nR ?nS ?nT ?nU ?nV ?nW ?nX ?nY ?nZ ?oA ?oB ?oC ?oD ?oE ?oF ?oG ?oH ?oI ?oJ ?oK ?oL ?oM;(case nI|nJ|nL|nM|nN|nO|nP|nQ|nR|nS|nT|nU|nV|nW|nX|nY|nZ|oA|oB|oC|oD|oE|oF|oG|oH|oI|oJ|oK|oL|oM=>k_is)))
  (case dD=>exact L4.XC LW.Jgp)
  (case dE=>exact L4.JH LW.Jee)
  (case dF=>exact L4.JH LW.Jbl)
  (case dG=>exact L4.JH LW.Ja3)
  (case dH=>exact L4.JH LW.Jae)
  (case dI=>(refine' LW.Xr ?oN ?oO ?oP ?oQ ?oR ?oS ?oT ?oU ?oV ?oW ?oX ?oY ?oZ ?pA ?pB ?pC ?pD ?pE ?pF ?pG ?pH ?pI ?pJ ?pK ?pL ?pM ?pN ?pO ?pP ?pQ;(case oN|oO|oP|oQ|oR|oS|oT|oU|oV|oW|oX|oY|oZ|pA|pB|pC|pD|pE|pF|pG|pH|pI|pJ|pK|pL|pM|pN|pO|pP|pQ=>k_is)))
  (case dJ|dK|dL|dM|dN|dO|dP|dQ|dR|dS|dT|dU|dV|dW=>k_is)
  (case dX|dY|dZ|eA|eB|eC|eD|eE|eF|eG|eH|eI|eJ|eK=>kernel_rfl)
  (case eL|eM|eN|eO|eP|eQ|eR|eS|eT|eU|eV|eW|eX|eY|eZ=>k_is)
  (case fA=>(refine' LW.J08 ?pR ?pS ?pT ?pU ?pV;(case pR|pS|pT|pU|pV=>k_is)))

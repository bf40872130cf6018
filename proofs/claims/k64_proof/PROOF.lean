import PyProof.Rows.All
import Wide.All
import OpenK.AllK
import Wide.FinOn
import Lean
import PyProof.EqAt
import PyProof.EqKinds
import PyProof.TupleCall
import PyProof.ExcBaseAll.ValueError
import PyProof.ExcAttrAll.ValueError
import PyProof.NsDelKeeps
import PySem.Challenge.RW_dutyproof_k64_judged_by_the_nearest_due
def zzp:Nat->Lean.TSyntax `term->Lean.MacroM (Lean.TSyntax `rcasesPat)|0,_=>Lean.Macro.throwUnsupported|n+1,x=>match x with|`(#[$y,*])=>do `(rcasesPat|⟨$[$(<-y.getElems.mapM (zzp n)):rcasesPat],*⟩)|`($i:ident)=>`(rcasesPat|$i:ident)|_=>`(rcasesPat|_)
local macro_rules|`(tactic|let#[$y,*]:=$e)=>do `(tactic|obtain $(<-zzp 99 (<-`(#[$y,*]))):rcasesPat:=$e)
local macro_rules|`(tactic|calc $e:term)=>`(tactic|refine $e)
local macro_rules|`(tactic|show $e)=>`(tactic|exact $e)
local macro_rules|`(command|def $i:declId $s:optDeclSig:=by $t)=>`(command|theorem $i:declId $(⟨Lean.mkNode ``Lean.Parser.Command.declSig #[s.raw[0],s.raw[1][0]]⟩):declSig:=by $t)
local macro_rules|`(tactic|simp![$x,*]$[$l]?)=>`(tactic|simp only[$x,*]$[$l]?)
open Option renaming some→M,none→Z,map_eq_some_iff→ZL,isSome_iff_exists→sW
open Nat renaming le_trans→Zb,add_le_add_right→Zc,le_add_right→Zd,le_of_eq→Zg,le_refl→Zk,le_of_lt→Zo,lt_of_lt_of_le→Zr,ne_of_lt→Zw,le_of_lt_succ→Z5,le_antisymm→Z7,zero_le→ZF,le_of_not_lt→ZH,lt_of_le_of_lt→ZP,lt_of_le_of_ne→ZX,lt_succ_self→ZY,add_lt_of_lt_sub'→ir,lt_of_succ_lt→fM,ne_of_gt→dH,add_le_of_le_sub'→jg,le_add_left_of_le→jo,lt_of_not_le→gh,le_add_left→fU,add_sub_cancel'→jh,lt_of_lt_of_eq→jq,add_le_add_left→jN,le_sub_one_of_lt→kP,min_le_right→jr,lt_trans→fV,lt_succ_of_lt→jO,sub_add_cancel→j2,sub_le→eX,le_succ→gi,le_sub_of_add_le→mP,pos_of_ne_zero→lD,succ_pos→iI,not_le_of_lt→kQ,add_right_comm→mQ,lt_irrefl→jP,zero_lt_of_lt→mR,not_lt→iJ,lt_succ_of_le→nJ,le_succ_of_le→nK,min_eq_left→mS,not_lt_zero→mT,sub_pos_of_lt→o9,lt_of_sub_eq_succ→rF,sub_eq_zero_of_le→rG,add_comm→lE,sub_le_sub_right→rJ,sub_le_sub_left→rK,add_lt_add_left→rL,zero_add→mU,succ_le_succ→p8,add_le_add→pd,min_le_left→p9,sub_lt→lG,one_pos→nL,add_assoc→qa,le_add_of_sub_le→vi,le_min→nM,sub_one_lt_of_le→vj,add_lt_add_of_lt_of_le→yH,add_lt_add_of_le_of_lt→yI,sub_sub_self→sX,add_sub_cancel_left→yJ,le_sub_of_add_le'→yK,le_of_sub_eq_zero→yL,succ_lt_succ→vk,lt_or_eq_of_le→yM,le_of_add_le_add_right→EG,sub_lt_left_of_lt_add→EH,two_mul→sY,add_sub_assoc→yN,le_zero→sZ,not_lt_of_le→yO,sub_le_iff_le_add'→EI,lt_or_ge→vm,sub_self→vn,lt_of_succ_lt_succ→EJ,le_of_ble_eq_true→EK,pred→rM
open PySem renaming wpAny_bind→Ze,wpAny_pure→Zp,Value→Zu,Shared→Zy,model→Z4,wpAny→ZB,Addr→ZD,mainGlobals→ZJ,Program→ZW,starEach→ZZ,Around→bM,wpAny_holding→fh,World→bo,wpAny_Call_Name_kw→jt,mem_of_lookup→j3,wpAny_mono→d6,codeAny_builtin→jQ,rawInt→cN,compareOp→eY,wpAny_setField→j4,plainId_quiet→jR,wpAny_newObj_type→mV,Heap→bp,wpAny_tryCatch→kR,assignEach→iK,sizeLine_eq→ju,binaryOp→fW,Spec→ZbZ,bootBuiltins→kT,wpAny_pyIter_list→pe,wpAny_rule→jv,eval→bN,wpAny_call_entry→ph,NameKind→pj,wpAny_seqItems→nN,wpAny_truthy_bool→qb,wpAny_callSpecial?_slot→td,wpAny_loadPart'→tf,backTo→eF,FuncData→j5,Builtin→iw,wpAny_field→mW,wpAny_setState_of→rN,wpAny_standAt→pq,wpAny_newList→pv,wpAny_setEntries_of→ti,wpAny_askSetting→rO,scanBound→kU,wpAny_getItem_str_slice→vo,wpAny_letGo→nO,wpAny_updateSeq→rP,Scope→eO,foldedSetIterable→tj,behindInMarks→rQ,ExceptHandler→EL,wpAny_attempt→rR,intKind→rT,codeAny→j6,wpAny_execs_nil→tm,sysModules→px,builtinsNs→pz,wpAny_pyIter_tuple→vp,sliceBounds→qc,keywordEach→qe,Stmt→gk,codeAny_mono→rV,wpAny_pyIter_enum→vq,builtinLookup_eq_fast→yP,attributeBase→tp,holding→lH,wpAny_of_eq→rW,letOwnedTupleGo→vr,PyData→j7,post_val_or_str→vs,swapsWith→qf,pyNext→kW,pyIter→kX,call_meets→rX,wpAny_letOwnedTupleGo_enum→EM,argsOk→kY,wpAny_fieldsOf→vt,fits_of_scanBound→yQ,strKind→vv,getMethod→rY,codeAmong→rZ,lastMarks→r7,backToKw→qg,wpAny_isInstance→yR,wpAny_pyNext_list_item→EN,getItem→pE,closureFor→tq,setNext→pF,typeLookup_type→yS,wpAny_pyNext_list_end→EO,seqIndex_of→vw,subscripted→vy,assign→nP,richCompare→vz,wpAny_runValue→yT,wpAny_newTuple→yU,hashInt→qh,Keyword→NO,callerA→qj,Arguments→tu,noteFrame→tw,argBest→qk,seqItems?→tx,pickOrder→tB,assignInOrder→yV,typeLookup→vA,wpAny_call→vB,intKind_is→vC,Within→yW,BindsTo→r8,bindArgs→tD,seqIndex_neg→yX,valueAt→r9,standAt→sd,relayAll→tE,Operator→tF,Result→se,IsPart→ql,strValues→vD
open List renaming getElem?_eq_getElem→Zh,length_map→Zn,mem_cons_of_mem→Zq,getElem?_eq_some_iff→Zs,mem_append_right→Zt,getD_eq_getElem?_getD→Z0,getElem_mem→Z6,mem_cons_self→ZA,mem_cons→ZC,mem_singleton→ZE,getElem?_map→ZI,length_append→ZM,getElem_map→ZN,mem_append→ZQ,mem_map→ZS,getElem?_append_left→ZU,mem_iff_getElem→gG,range→cO,getElem?_append_right→jS,not_mem_nil→eZ,size_toArray→fN,getElem?_set_ne→iy,mem_append_left→iL,getElem?_set_self→jw,map_map→d0,map_cons→eP,append_assoc→iz,mem_range→fO,replicate→fX,take_succ_eq_append_getElem→pG,all_cons→fY,length_cons→ji,take_of_length_le→lJ,lookup_cons→jx,cons_append→j8,mem_map_of_mem→mX,map_append→j9,ext_getElem→kZ,eq_nil_of_length_eq_zero→sf,set_append_left→nQ,length_reverse→nR,length_singleton→pH,length_range→mY,pairwise_append→pJ,pairwise_cons→nU,mem_filter→lK,append_nil→lL,reverse_cons→nV,nil_append→mZ,mem_reverse→nW,ext_getElem?→pL,drop_eq_getElem_cons→tG,mem_iff_getElem?→sg,length_filter_le→sh,length_take→pM,all_eq_true→pN,getElem_range→qm,mapM_cons→nX,map_congr_left→si,toArray→bV,sum_cons→nY,length_replicate→tH,take_append_drop→tI,getElem?_eq_none→tJ,pairwise_iff_getElem→vE,length_set→qn,mem_of_getElem?→tK,getElem?_range→tL,length_pos_iff→tM,getElem?_replicate→vF,length_eq_zero_iff→vG,nodup_cons→sj,pairwise_map→tN,nodup_range→tO,any_cons→sk,set_cons_zero→vH,findIdx?_eq_some_iff_getElem→ER,drop_eq_nil_of_le→yY,reverse_perm→vI,getElem?_toArray→yZ,getElem_inj→vJ,length_drop→vK,take_length→vL,filter_cons→vM,lookup→sv,foldl_cons→vN,filterMap_cons→y4,replicate_succ→y8,mergeSort_perm→y9,getElem?_take→za,getElem?_drop→zb,length_eraseIdx_of_lt→ES,getElem?_zip_eq_some→ET,findIdx?_eq_none_iff→EU,getElem?_take_of_lt→EV,length_erase_of_mem→EW,pairwise_mergeSort→EX,any_eq_true→zc,filter_cons_of_pos→EY,filter_cons_of_neg→EZ,pairwise_lt_range→E0,set_set→vO,of_mem_zip→zd,length_nil→ze,range_succ→zf,pairwise_reverse→E2,set_append_right→E3,dropLast_eq_take→E4,mem_of_mem_erase→E5,map_id'→zg,map_nil→zh
open PySem.Heap renaming get?_push_of_some→Zj,get?_push_size→Zx,lt_size→Z3,get?_update_other→Z9,get?_update_self→k6,SameBut→ka,size_push→sx,ExtBut→pO
open Bool renaming true→Zl,false→Zm,and_eq_true→Zv,false_ne_true→Zz,or_eq_true→m3,false_eq_true→sy,not_eq_true'→sA,eq_false_iff→tP,eq_iff_iff→tQ
open Int renaming lt_of_le_of_lt→Z1,le_of_lt→Z2,le_trans→Z8,le_refl→ZO,lt_of_lt_of_le→ZR,lt_add_of_pos_right→jy,le_of_eq→dP,natCast_nonneg→iM,emod_lt_of_pos→iN,emod_nonneg→gm,le_add_of_nonneg_right→m5,not_lt→dR,ne_of_gt→iA,not_le→gp,ediv_nonneg→k7,toNat_natCast→m6,le_antisymm→m7,toNat_of_nonneg→sC,add_comm→m8,lt_add_of_pos_left→tR,mul_nonneg→qp,le_ediv_iff_mul_le→vP,self_le_toNat→tT,toNat→m9,add_le_add→tU,mul_le_mul_of_nonneg_right→E6,mul_le_mul_of_nonneg_left→E7,zero_add→tV,ofNat_le→tW,add_nonneg→vQ,le_add_of_nonneg_left→E8,sub_pos_of_lt→zi,eq_ofNat_of_zero_le→E9,ediv_le_ediv→zj,natCast_add→zk,lt_trans→zl,ofNat_lt→zo
open PyProof.Rows renaming wpS_bind→ZG,wpS_pure→ZK,arrOf→ZT,seqObj→bc,pendingOf→cS,Keyed→fP,SortSt→cj,callWith_type1→qq,IntsAre→d8,get?_update_seq→nc,callWith_builtin1→vR,wpS_forRange→lM,signs→sD,evalAll_cons→vS,listUpdate_at→pP,wpS_mono→k8,K→sE,spliced_more→zp,spliced_none→zq,evalAll_nil→zr,failedOf→lN,size_push'→pQ,wpS_modify→pR,subscriptTail_builtinR→zt,AllBare→ng,mirror→k9,oneType'→pS,wpS_get→nZ,wpS_lift→qr,envOfC→og,wpS_reverse→vT,mirror_perm→vU,seqEpoch_at→vV,subscriptTail→zw,listItems_at→zx
open Ne renaming symm→ZV
open Array renaming length_toList→gH,toList_append→iB,getElem?_toList→lO,getElem?_eq_some_iff→sF,toList_reverse→sG,perm_iff_toList_perm→vW,size_extract→tX,getElem?_setIfInBounds→zy,getElem?_eq_none→zz,toList_zip→vX,getElem?_eq_getElem→Fb,toList_push→zA,size_setIfInBounds→Fc,eraseIdxIfInBounds→Fd,toList_inj→zB,getElem?_extract→Fe,size_push→zC,toList→zD
open PySem.Obj renaming data_mapFields→iC,mapSeq→dt,mapFields→iO,isFreed_of_fields→pT,cls_mapFields→tY
open Option.some renaming inj→gJ
open PySem.PyData renaming canLay0→iD,canLayAll0→lP,eqv→lQ,eqvAll→qt,list→vY
open PySem.Value renaming none→eI,ref→pU,bool→sH,int→sI,type→vZ
open PySem.Around renaming under_plainId→lR
open True renaming intro→fj
open PySem.Str renaming ofString→iE,length→tZ
open PySem.SetTable renaming below→jz,grown→qA,has→zE
open PySem.Heap.SameBut renaming update→nh
open PySem.NameKind renaming free→jT,cell→v3
open PySem.F renaming plain_max_loop→qB,plain_list_iadd→v5,plainAttrs_list→v7,entry_max_loop→zF,slot_dict_setdefault→Ff,entry_proto_collect→Fg,args_tuple_add_2→Fh,entry_tuple_add→Fi,entry_list_iadd→Fj,slot_tuple_add→Fm,slot_set_iter→Fo
open ForInStep renaming yield→nj
open False renaming elim→kc
open PyProof.Rows.F renaming plain_set_update_loop→zG,entry_set_update_loop→Fp
open PySem.Builtin.Builtins renaming bindParams→zH
open PySem.Builtin.List renaming listTooLong→zI,listExtendWith→Fq,listSameRef→Fs
open Array.Perm renaming refl→t6
open List.cons renaming injEq→t7
open List.Perm renaming refl→t8,eq_of_pairwise→Ft
open PySem.Walks renaming list→qC
open PyProof.Rows.SortSt renaming mk'→qD
open PySem.Calls renaming Name_function_global→Fu,spliced_cons→zJ,callWith_builtin→Fv
open PyProof.Rows.IntsAre renaming int_at→v8
open PySem.Builtin.SmallTypes renaming nextOf→Fx
open Classical renaming byContradiction→Fy
open List.Pairwise renaming nil→zK,sublist→Fz
open PySem.Builtin.Range renaming rangeSize→FA
open PySem.Txt renaming slice_le→v9,slice→t9
open PySem.Paired renaming length→zL
open PySem.Shared renaming TypeIs→zM
open Eq renaming refl→sJ
open PySem.pickOrder renaming go→zN
open PySem.Data renaming cell→wb
open Sum renaming inl→ua,inr→uc
noncomputable section
set_option compiler.extract_closed false
set_option bootstrap.genMatcherCode false
set_option genSizeOf false
set_option Elab.async false
set_option linter.all false
set_option maxRecDepth 100000
abbrev aN:=PySem.Str->Option PySem.Addr
abbrev aL:=PySem.Value->PySem.Shared->Prop
abbrev bf:=List<|PySem.Addr×PySem.Obj
local macro_rules|`(#[$a,$b,$c,*])=>`(⟨$a,$b,$c,*⟩)|`(#[$a,$b])=>`(⟨$a,$b⟩)
local macro_rules|`(00)=>`(by omega)|`(01)=>`(by decide)|`(02)=>`(by kernel_rfl)|`(03)=>`(by simp)|`(04)=>`(by rfl)|`(05)=>`(by lia)|`(06)=>`(by assumption)
theorem zO{l r m K:Nat}(a:l<=m)(d:r-l<=K):r-(m+1)<=K-1:=rJ (Zb (rK a r) d) 1
theorem zP{l r m K:Nat}(a:l<=m)(b:m<r)(d:r-l<=K):m-l<=K-1:=kP<|Zr (Nat.sub_lt_sub_right a b) d
theorem sL{l o:Nat}(h:l<o):l+(o-l)/2<o:=ir<|Nat.div_lt_self (o9 h) 01
theorem zQ{l r:Nat}(g:l<r):l<=(l+r)/2/\(l+r)/2<r:=⟨(Nat.le_div_iff_mul_le 01).mpr<|Nat.mul_two l▸jN (Zo g) l,Nat.div_lt_of_lt_mul<|sY r▸Nat.add_lt_add_right g r⟩
def FC{a z:Nat}(h:a<z):min a z+(z-(a+1)+1)=z:=by rw[mS<|Zo h];show(Nat.succ_add a _).symm.trans<|jh h
def NP{i j L:Nat}(a:L<=i)(b:i<j):j-L=i-L+1+(j-i-1):=by rw[<-Nat.sub_add_sub_cancel (Zo b) a,lE,qa,lE 1,j2<|o9 b]
theorem NQ{a y:Nat}(h:0<y-a):a+(y-a-1)=y-1:=(yN h a).symm.trans (congrArg (· - 1)<|jh<|Zo<|Nat.lt_of_sub_pos h)
theorem FD{x y:Int}{i j:Nat}(h:i<4096)(e:x<y\/x=y/\i<=j):x*4096+i<=y*4096+j:=05
theorem NR{x y:Int}{i j:Nat}(h:i<4096)(k:j<4096)(e:x*4096+i=y*4096+j):i=j:=05
def FE(n:Nat)(i:Int):max 0 (min (if i<0 then i+ ↑n else i) ↑n)=((if i<0 then(i+n).toNat else min i.toNat n:Nat):Int):=by
 by_cases h:i<0
 .rw[if_pos h,if_pos h,Int.ofNat_toNat,Int.max_comm,Int.min_eq_left<|Z8 (Int.add_le_add_right (Z2 h) n)<|dP<|tV _]
 .rw[if_neg h,if_neg h];let#[k,rfl]:=E9<|dR.mp h;change max 0 (min (k:Int) n)=(min k n:Nat);rcases Nat.le_total k n with a|a
  .rw[mS a,Int.min_eq_left<|tW.mpr a];show Int.max_eq_right<|iM _
  .rw[Nat.min_eq_right a,Int.min_eq_right<|tW.mpr a];show Int.max_eq_right<|iM _
def FF{x i j S:Nat}(h:0<i)(e:x+i+j<S):x+1+(i-1)+j<S:=by rw[qa x,lE 1,j2 h];show e
def FG{x i j S:Nat}(h:0<j)(e:x+i+j<S):x+1+i+(j-1)<S:=by rw[mQ x 1 i,qa<|x+i,lE 1,j2 h];show e
theorem Zf{p:Prop}(h:False):p:=h.elim
namespace L2
open PySem PySem.Spec PyProof.Rows
abbrev _root_.Wa:=Array<|Nat×Nat×Nat
abbrev _root_.Wb:=List<|Nat×Int×Int
abbrev _root_.Wc:=Array<|Option Zu
abbrev _root_.Wg:=Option<|Zu×Nat
abbrev _root_.Wh:=List<|Str×Bool
abbrev _root_.Wi:=List<|Str×pj
abbrev _root_.Wj:=Array GenState
abbrev _root_.Wk:=List<|Int×Tok
abbrev _root_.Wl:=Array<|Int×Zu
abbrev _root_.Wm:=List<|Str×Zu
abbrev _root_.Wp:=List<|Str×ZD
abbrev _root_.Wu:=Option Expr
abbrev _root_.Wv:=Option Bool
abbrev _root_.Ww:=Option Str
abbrev _root_.Wx:=Option pj
abbrev _root_.Wy:=Option Int
abbrev _root_.Wz:=Option Nat
abbrev _root_.Ta:=Option Zu
abbrev _root_.Tc:=Option ZD
abbrev _root_.Td:=List Expr
abbrev _root_.Tf:=Array fP
abbrev _root_.Ti:=Array Zu
abbrev _root_.Tj:=List Str
abbrev _root_.Tk:=List Env
abbrev _root_.Tl:=List gk
abbrev _root_.Tn:=List NO
abbrev _root_.To:=List Int
abbrev _root_.Tp:=List Nat
abbrev _root_.Tr:=List EL
abbrev _root_.Ts:=List fP
abbrev _root_.Tu:=List Zu
abbrev _root_.Tv:=List ZD
abbrev Key:=Sum Int Str
def XC:Key->Zu->Bool|.inl k,v=>Value.isInt k v|.inr x,v=>Value.isStrOf x v
def zR(w:bo):Key->Int|.inl k=>qh k|.inr x=>hashStr w x
theorem V0:∀{k:Key}{v:Zu},XC k v=Zl->(∃i t,k=ua i/\v=sI i t)\/(∃x t,k=uc x/\v=Value.str x t)|.inl i,v,h=>by let#[t,e]:=Value.isInt_shape h;show .inl #[i,t,rfl,e]|.inr x,v,h=>by let#[t,e]:=Value.isStrOf_shape h;show .inr #[x,t,rfl,e]
def NS(i)(t):XC (.inl i) (.int i t)=Zl:=by simp[XC,Value.isInt]
def NT(x)(t):XC (.inr x) (.str x t)=Zl:=by simp[XC,Value.isStrOf]
theorem NU(a b):decide ((ua a:Key)=ua b)=(a==b):=05
theorem NV(a b):decide ((uc a:Key)=uc b)=decide (a=b):=05
theorem NW(a)(b):decide ((ua a:Key)=uc b)=Zm:=decide_eq_false λq=>nomatch q
theorem NX(a)(b):decide ((uc a:Key)=ua b)=Zm:=decide_eq_false λq=>nomatch q
def Vm(prog:ZW)(w:bo):PySem.KeyKind prog w Key where
 is:=XC
 hash:=zR w
 inj:=λv a b ha hb=>by
  rcases V0 ha with⟨i,t,rfl,rfl⟩|⟨x,t,rfl,rfl⟩
  .rcases V0 hb with⟨j,u,rfl,e⟩|⟨y,u,rfl,e⟩
   .injection e with e1 _;rw[e1]
   .show nomatch e
  .rcases V0 hb with⟨j,u,rfl,e⟩|⟨y,u,rfl,e⟩
   .show nomatch e
   .injection e with e1 _;rw[e1]
 byValue:=λk v h=>by rcases V0 h with⟨i,t,rfl,rfl⟩|⟨x,t,rfl,rfl⟩<;>rfl
 pyHash:=λhv h=>by
  rcases V0 hv with⟨i,t,rfl,rfl⟩|⟨x,t,rfl,rfl⟩
  .show wpAny_pyHash_int h
  .show wpAny_pyHash_str h
 eqBool:=λhu hv h=>by
  rcases V0 hu with⟨i,t,rfl,rfl⟩|⟨x,t,rfl,rfl⟩
  .rcases V0 hv with⟨j,u,rfl,rfl⟩|⟨y,u,rfl,rfl⟩
   .rw[NU]at h;show wpAny_eqBool_int h
   .rw[NW]at h;show SeqAt.EqAt.int_str i t y u _ _ _ _ h
  .rcases V0 hv with⟨j,u,rfl,rfl⟩|⟨y,u,rfl,rfl⟩
   .rw[NX]at h;show SeqAt.EqAt.str_int x t j u _ _ _ _ h
   .rw[NV]at h;show wpAny_eqBool_str h
 «strs» :=λk x t v h=>by
  rcases V0 h with⟨i,u,rfl,e⟩|⟨y,u,rfl,e⟩
  .show nomatch e
  .injection e with e1 _
   subst e1;cases v<;>rfl
theorem NY(prog)(w)(i)(t):(Vm prog w).is (.inl i) (.int i t)=Zl:=NS i t
theorem NZ(prog)(w)(x)(t):(Vm prog w).is (.inr x) (.str x t)=Zl:=NT x t
inductive bC where|aw|bl (b:Bool)|int (i:Int)|str (x:Str)|jk (b:Array UInt8)|wc (b:UInt64)|ref (a:ZD)|ty (n:String)
 deriving DecidableEq
abbrev _root_.Wd:=List<|Option bC
abbrev _root_.Wr:=List<|Key×bC
abbrev _root_.Wt:=List<|Str×bC
abbrev _root_.Th:=Option bC
abbrev _root_.Uc:=List bC
def RelV:bC->Zu->Prop|.aw,u=>u=eI|.bl b,u=>u=sH b|.int i,u=>∃t,u=sI i t|.str x,u=>∃t,u=Value.str x t|.jk b,u=>∃t,u=Value.bytes b t|.wc b,u=>∃t,u=Value.float b t|.ref a,u=>u=pU a|.ty n,u=>u=vZ n
abbrev Vals:Uc->Tu->Prop:=Paired RelV
theorem Vals.length(r:Vals xs us):xs.length=us.length:=zL r
theorem Vals.get:∀{xs:Uc}{us:Tu}{i:Nat}{x:bC},Vals xs us->xs[i]?=M x->∃u,us[i]?=M u/\RelV x u
 |_,_,_,_,.nil,e=>by simp at e
 |_,_,0,_,.cons r _,e=>by simp at e;subst e;show#[_,rfl,r]
 |_,_,i+1,x,.cons _ t,e=>by
  let#[u,j,k]:=Vals.get t<|by simpa using e
  show#[u,by simpa using j,k]
theorem Vals.set(r:RelV x u):∀{xs:Uc}{us:Tu}(i:Nat),Vals xs us->Vals (xs.set i x) (us.set i u)
 |_,_,_,.nil=>.nil
 |_,_,0,.cons _ t=>.cons r t
 |_,_,i+1,.cons q t=>.cons q<|Vals.set r i t
theorem Vals.append:∀{xs ys:Uc}{us ws:Tu},Vals xs us->Vals ys ws->Vals (xs++ys) (us++ws)|_,_,_,_,.nil,s=>s|_,_,_,_,.cons r t,s=>.cons r<|Vals.append t s
theorem Vals.take:∀{xs:Uc}{us:Tu}(n:Nat),Vals xs us->Vals (xs.take n) (us.take n)|_,_,0,_=>.nil|_,_,_+1,.nil=>.nil|_,_,n+1,.cons r t=>.cons r<|Vals.take n t
theorem Vals.drop:∀{xs:Uc}{us:Tu}(n:Nat),Vals xs us->Vals (xs.drop n) (us.drop n)|_,_,0,r=>r|_,_,_+1,.nil=>.nil|_,_,n+1,.cons _ t=>Vals.drop n t
def dJ:Th->Ta->Prop|some v,M u=>RelV v u|none,Z=>True|_,_=>False
def KV{κ:Type}:List (κ×bC)->List (κ×Zu)->Prop:=Paired λ(p:κ×bC)(q:κ×Zu)=>p.1=q.1/\RelV p.2 q.2
noncomputable def kV:Key->bC|.inl i=>.int i|.inr x=>.str x
inductive HO where
 /-- a list -/
 |lst (xs:Uc)
 /-- a tuple (never changes) -/
 |tup (xs:Uc)
 /-- a dict whose keys are ints and texts; one whose keys are tuples of ints and texts (the empty one is both) -/
 |dK (kvs:Wr)|dT (kvs:List (List Key×bC))
 /-- a set of ints: its members,its size -/
 |set (S:Int->Bool) (n:Nat)
 /-- an instance of the class at C,its dict at dx,its attributes -/
 |ins (C dx:ZD) (fs:Wt)
 /-- the dict of the instance at x -/
 |own (x:ZD)
 /-- the dict of an exception -/
 |xd (fs:Wt)
 /-- a bound method,f of x -/
 |met (f x:ZD)
 /-- a range object lo,lo + 1,.. below D -/
 |we (lo D:Int)
 /-- a thing that is known to the object (the script; a dict while a loop walks it): read,never written while it is so -/
 |cI (o:Obj) (u:HO)
 /-- a code object's table -/
 |iP (ps:Ti)
 /-- any other thing,by what is Zl of its one object (a def of one's own: SetO a S n:= HO.ext λh=> ..) -/
 |ext (φ:bp->Prop)
abbrev Hp:=ZD->Option HO
def upd(H:Hp)(a:ZD)(o:HO):Hp:=λb=>if b=a then M o else H b
def J4:upd H a o a=M o:=by unfold upd;rw[if_pos rfl]
def Jw(h:b≠a):upd H a o b=H b:=by unfold upd;rw[if_neg h]
theorem Vn{H:Hp}(h:H a=M o)(h':H b=Z):a≠b:=05
section
variable(P:ZW)(w:bo)
def JR(H:Hp)(h:bp)(a:ZD):HO->Prop|.lst xs=>xs.length<=sizeLine/\∃(its:Tu) (n:Nat),Vals xs its/\h.get? a=M {cls:=.type "list",data:=.seq its.toArray n}|.tup xs=>xs.length<=sizeLine/\∃its:Tu,Vals xs its/\IsTup h a its.toArray|.dK kvs=>kvs.length<=sizeLine/\(a==px)=Zm/\∃O,KV kvs O/\h.DictOf (Vm P w) a O|.dT kvs=>kvs.length<=sizeLine/\(a==px)=Zm/\∃xs:List<|List Key×ZD×Zu,Paired (λ(p:List Key×bC)(q:List Key×ZD×Zu)=>p.1=q.1/\H q.2.1=M (.tup<|p.1.map kV)/\RelV p.2 q.2.2) kvs xs /\ ∃o es ep,h.get? a=M o/\o.ExactDict/\o.data=.dict es ep/\es.toList=xs.map (entryOfKey<|tupleKind<|Vm P w)/\(xs.map (·.1)).Nodup|.set S n=>h.SetOf (intKind P w) a S n|.ins C dx fs=>H dx=M (.own a)/\fs.length<=1000/\dx≠a/\h.get? a=M (W.instObj C dx) /\ ∃mA,h.Ns1 dx mA/\(∀f,dJ (fs.lookup f)<|mA f)/\yW mA (fs.map (·.1))|.own _=>∃o,h.get? a=M o|.xd fs=>∃mA,h.Ns1 a mA/\∀f,dJ (fs.lookup f)<|mA f|.we lo D=>∃t u v,h.get? a=M {cls:=.type "range",data:=.fields (bV [.int lo t,.int D u,.int 1 v])}|.cI o u=>h.get? a=M o/\JR H h a u|.iP ps=>h.get? a=M {cls:=.none,data:=.fields ps}|.met f x=>h.get? a=M (W.methodObj (.ref f)<|.ref x)|.ext φ=>φ h/\(∃o,h.get? a=M o)/\∀h1 h2:bp,φ h1->(∀o,h1.get? a=M o->h2.get? a=M o)->φ h2
def dk(H:Hp)(h:bp):Prop:=∀a o,H a=M o->JR P w H h a o
end
section
variable{P:ZW}{w:bo}{H H':Hp}{h h':bp}{a:ZD}{o:HO}
def JR.lt(x:JR P w H h a o):a<h.objs.size:=by cases o with|lst xs=>let#[_,_,_,_,e]:=x;show Z3 e|tup xs=>let#[_,_,_,p]:=x;show p.lt|dK j=>let#[_,_,_,_,o,_,_,e,_]:=x;show Z3 e|dT j=>let#[_,_,_,_,o,_,_,e,_]:=x;show Z3 e|set S n=>let#[o,_,_,_,e,_]:=x;show Z3 e|ins C m fs=>let#[_,_,_,e,_]:=x;show Z3 e|own y=>let#[_,e]:=x;show Z3 e|xd fs=>let#[_,#[_,_,_,e,_],_]:=x;show Z3 e|we k D=>let#[_,_,_,e]:=x;show Z3 e|cI ob u=>let#[e,_]:=x;show Z3 e|iP ps=>show Z3<|x|met f y=>show Z3<|x|ext φ=>let#[_,#[_,e],_]:=x;show Z3 e
theorem Paired.ud:∀{l₁:List α}{l₂:List β},Paired F l₁ l₂->(∀a b,F a b->G a b)->Paired G l₁ l₂|_,_,.nil,_=>.nil|_,_,.cons r t,f=>.cons (f _ _ r)<|Paired.ud t f
def JR.fm(x:JR P w H h a o)(k:∀b u,(b=a\/H b=M (.own a))->h.get? b=M u->h'.get? b=M u) (U:∀b,H b=M (.own a)->H' b=M (.own a))(J:∀b xs,H b=M (.tup xs)->H' b=M (.tup xs)):JR P w H' h' a o:=by induction o with|lst xs=>let#[z,B,n,r,e]:=x;show#[z,B,n,r,k _ _ (.inl rfl) e]|tup xs=>let#[z,B,r,ob,e,c]:=x;show#[z,B,r,ob,k _ _ (.inl rfl) e,c]|dK I=>let#[z,y,O,r,ob,j,m,e,c]:=x;show#[z,y,O,r,ob,j,m,k _ _ (.inl rfl) e,c]|dT I=>let#[z,y,xs,r,ob,j,m,e,c]:=x;show#[z,y,xs,Paired.ud r λp q z=>#[z.1,J _ _ z.2.1,z.2.2],ob,j,m,k _ _ (.inl rfl) e,c]|set S n=>let#[ob,j,m,t,e,c]:=x;show#[ob,j,m,t,k _ _ (.inl rfl) e,c]|ins C W fs=>let#[d,z,ne,e,E,#[F,j,m,Q,c],r]:=x;show#[U _ d,z,ne,k _ _ (.inl rfl) e,E,#[F,j,m,k _ _ (.inr d) Q,c],r]|own y=>let#[ob,e]:=x;show#[ob,k _ _ (.inl rfl) e]|xd fs=>let#[E,#[F,j,m,e,c],r]:=x;show#[E,#[F,j,m,k _ _ (.inl rfl) e,c],r]|we V D=>let#[t,u,v,e]:=x;show#[t,u,v,k _ _ (.inl rfl) e]|cI ob u R=>let#[e,q]:=x;show#[k _ _ (.inl rfl) e,R q]|iP ps=>have e:=x;show k a _ (.inl rfl) e|met f y=>have e:=x;show k a _ (.inl rfl) e|ext φ=>let#[p,#[o,e],st]:=x;show#[st _ _ p λo q=>k _ _ (.inl rfl) q,#[o,k _ _ (.inl rfl) e],st]
theorem dk.lt(x:dk P w H h)(e:H a=M o):a<h.objs.size:=(x a o e).lt
def dk.fresh(x:dk P w H h)(e:h.objs.size<=a):H a=Z:=by cases q:H a with|none=>rfl|some u=>show absurd (Zr (x.lt q) e)<|jP _
theorem dk.kept(x:dk P w H h)(k:∀b u,h.get? b=M u->h'.get? b=M u):dk P w H h':=λa o e=>
 (x a o e).fm (λb u _ q=>k b u q) (λ_ q=>q) λ_ _ q=>q
theorem dk.laid(x:dk P w H h)(k:∀b u,h.get? b=M u->h'.get? b=M u)(hp:h.objs.size<=a)(new:JR P w (upd H a o) h' a o):dk P w (upd H a o) h':=λb u e=>by
 have hn:=x.fresh hp;by_cases j:b=a
 .subst j;rw[J4]at e;cases e;show new
 .rw[Jw j]at e;show(x b u e).fm (λc v _ q=>k c v q) (λc q=>by rw[Jw<|Vn q hn];show q) λc xs q=>by rw[Jw<|Vn q hn];show q
end
def Rd(H:Hp)(a:ZD)(u:HO):Prop:=H a=M u\/∃o,H a=M (.cI o u)
theorem Rd.of(h:H a=M u):Rd H a u:=.inl h
def Rd.ok(r:Rd H a u)(x:dk P w H h):JR P w H h a u:=by
 rcases r with r|⟨o,r⟩
 .show x a u r
 .let#[_,q]:=x a _ r;show q
def qE:Option HO->Prop|some (.lst _)=>True|some (.dK _)=>True|some (.dT _)=>True|some (.set _ _)=>True|some (.ins _ _ _)=>True|some (.ext _)=>True|_=>False
section
variable{P:ZW}{w:bo}{H:Hp}{h h':bp}{x e:ZD}{o':HO}
theorem dk.write(ok:dk P w H h)(C:qE<|H x)(J:e=x\/H e=M (.own x))(k:∀b u,b≠e->h.get? b=M u->h'.get? b=M u)(D:∃u,h'.get? e=M u)
  (new:JR P w (upd H x o') h' x o'):dk P w (upd H x o') h':=λb u q=>by
 have j:∀c y,H c=M (.own y)->c≠x:=λc y r z=>by subst z;rw[r]at C;show C
 have B:∀c xs,H c=M (.tup xs)->c≠x:=λc xs r z=>by subst z;rw[r]at C;show C
 by_cases F:b=x
 .subst F;rw[J4]at q;cases q;show new
 .rw[Jw F]at q;by_cases m:b=e
  .have I:H b=M (.own x):=by
    rcases J with z|z
    .lia
    .rw[m];show z
   rw[q]at I;cases I;let#[v,hv]:=D;show#[v,by rw[m];show hv]
  .refine(ok b u q).fm (λc v E r=>k c v ?_ r) (λc r=>by rw[Jw<|j c b r];show r) λc xs r=>by rw[Jw<|B c xs r];show r
   rcases E with rfl|E
   .show m
   .rintro rfl;rcases J with z|z
    .show j c b E z
    .simp_all
end
structure Un(fs ex:Tv)(H H':Hp)(h h':bp):Prop where
 keep:∀b o,h.get? b=M o->H b=Z->b∉fs->b∉ex->h'.get? b=M o
 slot:∀b o,h.get? b=M o->H b=Z->b∈fs->b∉ex->∃sl,h'.get? b=M {o with slots:=sl}
 free:∀b o,h.get? b=M o->H b=Z->b∉ex->H' b=Z
 there:∀b o,h.get? b=M o->b∉ex->∃o',h'.get? b=M o'
 dw:∀b xs,H b=M (.tup xs)->H' b=M (.tup xs)
 cb:∀b o u,H b=M (.cI o u)->H' b=M (.cI o u)
 d9:∀b ps,H b=M (.iP ps)->∃more,H' b=M (.iP<|ps++more)
section
variable{fs fs' ex ex':Tv}{H H1 H2:Hp}{h h1 h2 h':bp}{a x e:ZD}{o:HO}
def Un.any(u:Un fs ex H H1 h h1)(q:h.get? b=M ob)(n:H b=Z)(hx:b∉ex):∃sl,h1.get? b=M {ob with slots:=sl}:=by
 by_cases j:b∈fs
 .show u.slot b ob q n j hx
 .show#[ob.slots,u.keep b ob q n j hx]
theorem Un.kept(k:∀b u,h.get? b=M u->h'.get? b=M u):Un fs ex H H h h':=#[λb ob q _ _ _=>k b ob q,λb ob q _ _ _=>#[ob.slots,k b ob q],λ_ _ _ n _=>n,λb ob q _=>#[ob,k b ob q],λ_ _ q=>q,λ_ _ _ q=>q,λ_ ps q=>#[#[],by rw[q];simp]]
theorem Un.refl:Un fs ex H H h h:=Un.kept λ_ _ q=>q
theorem Un.laid(k:∀b u,h.get? b=M u->h'.get? b=M u)(hp:h.objs.size<=a)(hn:H a=Z):Un fs ex H (upd H a o) h h' where
 keep:=λb u q _ _ _=>k b u q
 slot:=λb u q _ _ _=>#[u.slots,k b u q]
 free:=λb u q n _=>by rw[Jw<|Zw<|Zr (Z3 q) hp];show n
 there:=λb u q _=>#[u,k b u q]
 dw:=λb xs q=>by rw[Jw<|Vn q hn];show q
 cb:=λb u xs q=>by rw[Jw<|Vn q hn];show q
 d9:=λb ps q=>#[#[],by rw[Jw<|Vn q hn,q];simp]
def Un.write(m:qE<|H x)(D:e=x\/H e=M (.own x))(k:∀b u,b≠e->h.get? b=M u->h'.get? b=M u)(B:∃u,h'.get? e=M u):Un fs ex H (upd H x o) h h':=by
 have hx:∀b,H b=Z->b≠x:=λb n z=>by subst z;rw[n]at m;show m
 have C:∀b,H b=Z->b≠e:=λb n z=>by
  subst z;rcases D with r|r
  .show hx b n r
  .rw[n]at r;cases r
 have hm:∀b u,H b=M u->¬qE (M u)->b≠x:=λb u q nm z=>by subst z;rw[q]at m;show nm m
 calc#[λb u q n _ _=>k b u (C b n) q,λb u q n _ _=>#[u.slots,k b u (C b n) q],λb u q n _=>by rw[Jw<|hx b n];show n,λb u q _=>?_,λb xs q=>by rw[Jw<|hm b _ q λz=>z];show q,λb u xs q=>by rw[Jw<|hm b _ q λz=>z];show q,λb ps q=>#[#[],by rw[Jw<|hm b _ q λz=>z,q];simp]];by_cases j:b=e
 .subst j;show B
 .show#[u,k b u j q]
end
noncomputable def wg (h:bp)(H:Hp):Tv:=(cO h.objs.size).filter λa=>(H a).isSome
def gM(h:bp)(H:Hp):bp:=W.hideAll h<|wg h H
theorem Oa(h)(H):(gM h H).objs.size=h.objs.size:=W.hideAll_size _ _
theorem Oc(e:h.get? b=M o)(n:H b=Z):(gM h H).get? b=M o:=W.hideAll_get _ e λhm=>by have q:=(lK.mp hm).2;rw[n]at q;simp at q
def Od(e:(gM h H).get? b=M o):h.get? b=M o/\H b=Z:=by have j:=W.of_hideAll (wg h H) e;calc#[j,?_];cases q:H b with|none=>rfl|some x=>have hm:b∈wg h H:=lK.mpr #[fO.mpr<|Z3 j,by simp[q]];have z:(gM h H).get? b=Z:=W.hideAll_none (wg h H) hm;rw[z]at e;cases e
structure Mod(K:W.Frag)(mg:Str->Ta)(base:bp):Prop where
 qF:K.In base
 glob:base.Ns ZJ mg
 blt:∃mb,base.Ns pz mb/\∀x:Str,x≠"__name__"->mb x=kT x
 nolimit:base.NoLimit
set_option genInjectivity false in
structure Cx where
 prog:ZW
 w:bo
 K:W.Frag
 mg:Str->Ta
 base:bp
 A:bM
 N:Tj
 s₀:Zy
 H₀:Hp
 env:Env
 outer:Tk
 stack:Tk
 ex:Tv
 fn:Str->Bool
 calm:Bool
 pn:bf
 xe:aL
noncomputable def fu (l:Tk):Tv:=l.filterMap (·.frame)
abbrev Cx.fs(X:Cx):Tv:=fu X.outer
def qG(sc:eO)(x:Str):Prop:=sc.names.lookup x=M .local\/sc.names.lookup x=M .cell\/sc.names.lookup x=M .free
def Loc(sc:eO)(x:Str):Prop:=sc.names.lookup x=M .local\/sc.names.lookup x=M .cell
def Look(env:Env)(h:bp)(m:Str->Ta)(x:Str)(u:Zu):Prop:=(env.kindOf x=M .local/\m x=M u)\/((env.kindOf x=M .cell\/env.kindOf x=M .free)/\∃c,env.cells.lookup x=M c/\h.IsCell c (M u))
structure Cx.Ok(X:Cx):Prop where
 mod:Mod X.K X.mg X.base
 kind:X.env.scope.kind=.function
 glob:X.env.globals=ZJ
 blt:X.env.builtins=pz
 above:X.s₀.heap.objs.size<=X.env.locals
 inj:∀x y c,X.env.cells.lookup x=M c->X.env.cells.lookup y=M c->x=y
 has:∀x,(X.env.kindOf x=M .cell\/X.env.kindOf x=M .free)->∃c,X.env.cells.lookup x=M c
 sM:∀x c,X.fn x=Zl->X.env.cells.lookup x=M c->X.s₀.heap.objs.size<=c
 hd:X.calm=Zl->X.A.handled=Z
 frames:X.A.frames=M X.stack
 ue:X.stack=X.outer\/(X.stack=X.env::X.outer/\X.env.frame=M X.env.locals)
 uf:∀b∈X.ex,b≠X.env.locals/\∀x c,X.env.cells.lookup x=M c->c≠b
 bs:∀b o,X.base.get? b=M o->X.s₀.heap.get? b=M o/\X.H₀ b=Z
 lT:X.base.objs.size<=X.s₀.heap.objs.size
 ke:∀b o,X.base.get? b=M o->b∉X.ex
 kg:∀b∈X.ex,b∉X.fs
 dS:X.s₀.heap.FunFrames X.base X.outer
 oh:∀b∈X.fs,X.H₀ b=Z
structure Inv(X:Cx)(V:bf)(U:Wd)(H:Hp)(s:Zy):Prop where
 ok:X.Ok
 os:s.os=X.s₀.os
 bare:ng s.gens
 base:Un X.fs X.ex X.H₀ H X.s₀.heap s.heap
 loc:∃m,s.heap.Ns X.env.locals m/\∀(i:Nat)(x:Str)(v:bC),X.N[i]?=M x->U[i]?=M (M v)->qG X.env.scope x->∃u,RelV v u/\Look X.env s.heap m x u
 cell:∀x c,X.env.cells.lookup x=M c->∃v,s.heap.IsCell c v
 free:H X.env.locals=Z
 cg:∀x c,X.env.cells.lookup x=M c->H c=Z
 pin:∀p∈X.pn++V,s.heap.get? p.1=M p.2/\H p.1=Z/\p.1≠X.env.locals/\p.1∉X.fs/\∀v,p.2.data≠.cell v
 aA:dk X.prog X.w H s.heap
 len:U.length=X.N.length
section
variable{X:Cx}{V:bf}{U:Wd}{H H':Hp}{s:Zy}{h':bp}
theorem Cx.Ok.zS(ok:X.Ok)(e:X.base.get? b=M o):b∉X.fs:=λj=>by have:=(ok.dS.mem j).1;rw[e]at this;cases this
theorem Inv.bs(I:Inv X V U H s):∀b o,X.base.get? b=M o->s.heap.get? b=M o/\H b=Z:=λb o e=>
 #[I.base.keep b o (I.ok.bs b o e).1 (I.ok.bs b o e).2 (I.ok.zS e) (I.ok.ke b o e),I.base.free b o (I.ok.bs b o e).1 (I.ok.bs b o e).2 (I.ok.ke b o e)]
theorem Inv.bk(I:Inv X V U H s):∀b o,X.base.get? b=M o->s.heap.get? b=M o:=λb o e=>(I.bs b o e).1
theorem Inv.mod(I:Inv X V U H s):Mod X.K X.mg X.base:=I.ok.mod
theorem Inv.dQ(I:Inv X V U H s):X.K.In s.heap:=I.ok.mod.qF.keeps I.bk
theorem Inv.lt(I:Inv X V U H s):X.env.locals<s.heap.objs.size:=let ⟨_,hn,_⟩:=I.loc;hn.lt
theorem Inv.sz(I:Inv X V U H s):X.s₀.heap.objs.size<=s.heap.objs.size:=Zb I.ok.above<|Zo I.lt
theorem Inv.zT(I:Inv X V U H s)(h:s.heap.objs.size<=a):a∉X.fs:=λk=>by let#[_,o,j,_]:=I.ok.dS.mem k;show absurd (Zr (Z3 j)<|Zb I.sz h)<|jP _
theorem Inv.lU(I:Inv X V U H s):∀x c,X.env.cells.lookup x=M c->c≠X.env.locals:=λx c e z=>by let#[v,o,B,hd]:=I.cell x c e;let#[m,#[D,C,E,k,j,_],_]:=I.loc;rw[z,k]at B;cases B;rw[j]at hd;cases hd
def Inv.dS(I:Inv X V U H s):s.heap.FunFrames X.base X.outer:=by
 have all:∀(l:Tk),(∀b∈fu l,b∈X.fs)->X.s₀.heap.FunFrames X.base l->s.heap.FunFrames X.base l:=by
  intro l;induction l with|nil=>intro _ _;trivial|cons env r D=>
   intro B E;let#[F,#[L,o,k,hn,C,hd],J]:=E;have m:=B L<|by unfold fu;rw[y4,k];show ZA
   let#[O,e]:=I.base.slot L o C (I.ok.oh L m) m λz=>I.ok.kg L z m
   show#[F,#[L,_,k,hn,e,hd],D (λb j=>B b<|by unfold fu;rw[y4,k];show Zq _ j) J]
 show all X.outer (λ_ j=>j) I.ok.dS
def Inv.stack(I:Inv X V U H s):s.heap.FunFrames X.base X.stack:=by
 rcases I.ok.ue with e|⟨e,hf⟩
 .rw[e];show I.dS
 .rw[e];let#[m,hn,_]:=I.loc;calc .cons (by rw[I.ok.kind];decide) hf hn ?_ I.dS;show Heap.get?_none_of_le<|Zb I.ok.lT I.ok.above
theorem Inv.jA(I:Inv X V U H s):∀b∈fu X.stack,b∈X.env.locals::X.fs:=λb j=>by
 rcases I.ok.ue with e|⟨e,hf⟩
 .simp_all
 .rw[e]at j;unfold fu at j;rw[y4,hf]at j;show j
theorem Inv.e8(I:Inv X V U H s):∀b∈fu X.stack,H b=Z:=λb j=>by
 rcases ZC.mp (I.jA b j)with e|j
 .rw[e];show I.free
 .let#[_,o,k,_]:=I.ok.dS.mem j;show I.base.free b o k (I.ok.oh b j) λz=>I.ok.kg b z j
def Inv.step{ch:Tv}(I:Inv X V U H s)
  (B:∀b∈ch,(b∈X.ex\/X.s₀.heap.objs.size<=b)/\b≠X.env.locals/\(∀x c,X.env.cells.lookup x=M c->c≠b)/\∀p∈X.pn++V,p.1≠b)
  (keep:∀b o,b≠X.env.locals->b∉X.fs->b∉ch->s.heap.get? b=M o->H b=Z->h'.get? b=M o)
  (slot:∀b o,b≠X.env.locals->b∈X.fs->b∉ch->s.heap.get? b=M o->H b=Z->∃sl,h'.get? b=M {o with slots:=sl})(free:∀b o,b∉ch->s.heap.get? b=M o->H b=Z->H' b=Z)
  (there:∀b o,b∉ch->s.heap.get? b=M o->∃o',h'.get? b=M o')
  (dw:∀b xs,H b=M (.tup xs)->H' b=M (.tup xs))(cb:∀b o u,H b=M (.cI o u)->H' b=M (.cI o u))(d9:∀b ps,H b=M (.iP ps)->∃more,H' b=M (.iP<|ps++more))
  (ns:∀m,s.heap.Ns X.env.locals m->h'.Ns X.env.locals m)(aA:dk X.prog X.w H' h')(hg:ng g'):
  Inv X V U H' {s with heap:=h',gens:=g',drawn:=d',toks:=t'}:=by
 have O:∀b o,X.s₀.heap.get? b=M o->b≠X.env.locals:=λb o e=>Zw<|Zr (Z3 e) I.ok.above
 have D:∀b o,X.s₀.heap.get? b=M o->b∉X.ex->b∉ch:=λb o e hx F=>by
  rcases(B b F).1 with z|z
  .show hx z
  .show absurd (Zr (Z3 e) z)<|jP _
 have C:∀x c,X.env.cells.lookup x=M c->∀v,s.heap.IsCell c v->h'.IsCell c v:=λx c e v ⟨o,J,hd⟩=>by
  have j:=λz=>(B c z).2.2.1 x c e rfl
  by_cases R:c∈X.fs
  .let#[sl,q]:=slot c o (I.lU x c e) R j J<|I.cg x c e;show#[_,q,hd]
  .show#[o,keep c o (I.lU x c e) R j J<|I.cg x c e,hd]
 refine#[I.ok,I.os,hg,#[λb o e n F hx=>?_,λb o e n F hx=>?_,λb o e n hx=>?_,λb o e hx=>?_,λb xs e=>dw b xs<|I.base.dw b xs e,λb o xs e=>cb b o xs<|I.base.cb b o xs e,λb ps e=>?_],?_,λx c e=>?_,?_,λx c e=>?_,λp hp=>?_,aA,I.len]
 .show keep b o (O b o e) F (D b o e hx) (I.base.keep b o e n F hx)<|I.base.free b o e n hx
 .let#[sl,E]:=I.base.slot b o e n F hx;let#[Q,P]:=slot b _ (O b o e) F (D b o e hx) E<|I.base.free b o e n hx;show#[Q,P]
 .let#[o',E]:=I.base.there b o e hx;show free b o' (D b o e hx) E<|I.base.free b o e n hx
 .let#[o',E]:=I.base.there b o e hx;show there b o' (D b o e hx) E
 .let#[m1,E]:=I.base.d9 b ps e;let#[Y,P]:=d9 b _ E;show#[m1++Y,by rw[P,Array.append_assoc]]
 .let#[m,hn,hl]:=I.loc;calc#[m,ns m hn,λi x v E P W=>?_];let#[u,r,l]:=hl i x v E P W;calc#[u,r,?_];rcases l with l|⟨k,c,e,z⟩
  .show .inl l
  .show .inr #[k,c,e,C x c e _ z]
 .let#[v,z]:=I.cell x c e;show#[v,C x c e v z]
 .let#[m,#[o,_,_,J,_],_]:=I.loc;show free _ o (λz=>(B _ z).2.1 rfl) J I.free
 .let#[v,o,J,hd]:=I.cell x c e;show free c o (λz=>(B c z).2.2.1 x c e rfl) J<|I.cg x c e
 .let#[e,n,ne,S,d]:=I.pin p hp;have j:=λz=>(B p.1 z).2.2.2 p hp rfl
  show#[keep p.1 p.2 ne S j e n,free p.1 p.2 j e n,ne,S,d]
def Inv.un(I:Inv X V U H s)(u:Un X.fs [] H H' s.heap h')(aA:dk X.prog X.w H' h'):Inv X V U H' {s with heap:=h',toks:=t'}:=by let#[m,#[o,O,Q,D,r],_]:=id I.loc;let#[J,E]:=u.any D I.free 03;show I.step (ch:=[]) (λ_ z=>nomatch z) (λb o _ k _ e n=>u.keep b o e n k 03) (λb o _ k _ e n=>u.slot b o e n k 03) (λb o _ e n=>u.free b o e n 03) (λb o _ e=>u.there b o e 03) u.dw u.cb u.d9 (λP hm=>by let#[R,B,C,j,F]:=hm;rw[D]at j;cases j;show#[_,B,C,E,F]) aA I.bare
def Inv.call(I:Inv X V U H s)(u:Un (fu X.stack) ch H H' s.heap h')(aA:dk X.prog X.w H' h')(O:ng g') (k:∀b∈ch,(b∈X.ex\/X.s₀.heap.objs.size<=b)/\b≠X.env.locals/\(∀x c,X.env.cells.lookup x=M c->c≠b)/\∀p∈X.pn++V,p.1≠b):Inv X V U H' {s with heap:=h',gens:=g',drawn:=d',toks:=t'}:=by
 let#[m,#[o,R,W,F,r],_]:=id I.loc;let#[Q,D]:=u.any F I.free λz=>(k _ z).2.1 rfl
 show I.step k (λb o D J j e n=>u.keep b o e n (λz=>(ZC.mp<|I.jA b z).elim D J) j) (λb o _ _ j e n=>u.any e n j) (λb o j e n=>u.free b o e n j) (λb o j e=>u.there b o e j) u.dw u.cb u.d9 (λS hm=>by let#[Y,C,E,B,P]:=hm;rw[F]at B;cases B;show#[_,C,E,D,P]) aA O
def Inv.turned(I:Inv X V U H s)(k:∀b o,b≠it->s.heap.get? b=M o->h'.get? b=M o)(hn:H it=Z)(C:it≠X.env.locals)
  (h1:it∈X.ex\/X.s₀.heap.objs.size<=it)(h2:∀x c,X.env.cells.lookup x=M c->c≠it)(h3:∀p∈X.pn++V,p.1≠it):Inv X V U H {s with heap:=h',toks:=t'}:=by
 have B:∀b u,H b=M u->b≠it:=λb u e z=>by rw[z,hn]at e;cases e
 refine I.step (ch:=[it]) (λb D=>?_) (λb o _ _ j e _=>k b o (λz=>j<|by simp[z]) e) (λb o _ _ j e _=>#[o.slots,k b o (λz=>j<|by simp[z]) e]) (λ_ _ _ _ n=>n)
  (λb o j e=>#[o,k b o (λz=>j<|by simp[z]) e]) (λ_ _ e=>e) (λ_ _ _ e=>e) (λb ps e=>#[#[],by rw[e];simp]) (λm hm=>?_) (λb u e=>?_) I.bare
 .have e:b=it:=by simpa using D
  subst e;show#[h1,C,h2,h3]
 .let#[o,E,F,J,r]:=hm;show#[o,E,F,k _ o (ZV C) J,r]
 .refine(I.aA b u e).fm (λc v j q=>k c v ?_ q) (λ_ q=>q) λ_ _ q=>q
  rcases j with z|z
  .rw[z];show B b u e
  .show B c _ z
theorem Inv.tok(I:Inv X V U H s)(t):Inv X V U H {s with toks:=t}:=I.un Un.refl I.aA
theorem Inv.kept(I:Inv X V U H s)(k:∀b u,s.heap.get? b=M u->h'.get? b=M u):Inv X V U H {s with heap:=h',toks:=t'}:=I.un (Un.kept k)<|I.aA.kept k
theorem Inv.laid(I:Inv X V U H s)(k:∀b u,s.heap.get? b=M u->h'.get? b=M u)(hp:s.heap.objs.size<=a)(new:JR X.prog X.w (upd H a o) h' a o):Inv X V U (upd H a o) {s with heap:=h',toks:=t'}:=I.un (Un.laid k hp<|I.aA.fresh hp)<|I.aA.laid k hp new
theorem Inv.write(I:Inv X V U H s)(m:qE<|H x)(B:e=x\/H e=M (.own x))(k:∀b u,b≠e->s.heap.get? b=M u->h'.get? b=M u)(j:∃u,h'.get? e=M u) (new:JR X.prog X.w (upd H x o) h' x o):Inv X V U (upd H x o) {s with heap:=h',toks:=t'}:=I.un (Un.write m B k j)<|I.aA.write m B k j new
theorem Inv.jU(I:Inv X V U H s)(h:∀p∈pj',s.heap.get? p.1=M p.2/\H p.1=Z/\p.1≠X.env.locals/\p.1∉X.fs/\∀v,p.2.data≠.cell v):Inv X pj' U H s:=#[I.ok,I.os,I.bare,I.base,I.loc,I.cell,I.free,I.cg,λp hp=>(ZQ.mp hp).elim (λz=>I.pin p<|iL _ z)<|h p,I.aA,I.len]
def zU{N:Tj}(m:N.Nodup){i j:Nat}(a:N[i]?=M x)(b:N[j]?=M x):i=j:=by let#[D,B]:=Zs.mp a;let#[C,k]:=Zs.mp b;show(vJ m).mp<|B.trans k.symm
def Oe(I:Inv X V U H s)(hN:X.N.Nodup)(D:X.N[i]?=M x)(hx:Loc X.env.scope x)(r:RelV v u)
  (h:∀s',Inv X V (U.set i<|M v) H s'->(∃a,ka a s.heap s'.heap/\(a=X.env.locals\/X.env.cells.lookup x=M a))->Q () s')(hf:X.fn x=Zl\/X.env.scope.names.lookup x=M .local:=by assumption):ZB bA A (storeName X.env x u) Q E s:=by
 let#[m,hn,hl]:=id I.loc;have hcls:(X.env.scope.kind==.class||(X.env.scope.kind==.module&&X.env.locals != X.env.globals))=Zm:=by rw[I.ok.kind];rfl
 have hiU:i<U.length:=by rw[I.len];show(Zs.mp D).1
 have lU:=I.lU;have C:∀{a:ZD}{Y:bp},(∃o,s.heap.get? a=M o/\H a=Z)->ka a s.heap Y->dk X.prog X.w H Y:=λ{a Y} ha B b ob e=>by
  let#[_,_,R]:=ha;refine(I.aA b ob e).fm (λc w' J q=>(B.2 c ?_).trans q) (λ_ q=>q) λ_ _ q=>q
  rintro rfl;rcases J with rfl|J
  .rw[R]at e;cases e
  .lia
 rcases hx with hk|hk
 .calc wpAny_storeName_local hk hn (λY hn' B=>?_) hcls;let#[oL,_,_,hoL,_]:=id hn;refine h _ #[I.ok,I.os,I.bare,#[λb o e n P hx=>?_,λb o e n P hx=>?_,I.base.free,λb o e hx=>?_,I.base.dw,I.base.cb,I.base.d9],#[_,hn',λj y v' F O e3=>?_],λy c e=>?_,I.free,I.cg,λp hp=>?_,C #[oL,hoL,I.free] B,by simpa using I.len] #[_,B,.inl rfl]
  .show(B.2 b<|Zw<|Zr (Z3 e) I.ok.above).trans<|I.base.keep b o e n P hx
  .let#[sl,F]:=I.base.slot b o e n P hx;show#[sl,(B.2 b<|Zw<|Zr (Z3 e) I.ok.above).trans F]
  .let#[o',F]:=I.base.there b o e hx;show#[o',(B.2 b<|Zw<|Zr (Z3 e) I.ok.above).trans F]
  .by_cases W:j=i
   .subst W;rw[D]at F;cases F;rw[jw hiU]at O;cases O;show#[u,r,.inl #[hk,03]]
   .rw[iy<|ZV W]at O;let#[u',r',q]:=hl j y v' F O e3;calc#[u',r',?_];rcases q with⟨k,e⟩|⟨k,c,e,z⟩
    .calc .inl #[k,?_];have:y≠x:=λe=>W<|zU hN F<|e▸D
     simp[this,e]
    .show .inr #[k,c,e,z.sameBut B<|lU y c e]
  .let#[w',z]:=I.cell y c e;show#[w',z.sameBut B<|lU y c e]
  .let#[e,n,ne,nf,d]:=I.pin p hp;show#[(B.2 p.1 ne).trans e,n,ne,nf,d]
 .have S:X.fn x=Zl:=by
   rcases hf with z|z
   .show z
   .rw[z]at hk;cases hk
  let#[c,J]:=I.ok.has x<|.inl hk;let#[w',z]:=I.cell x c J;refine wpAny_storeName_cell I.ok.kind hk J z λY hc' B=>?_
  let#[oc,hoc,hocd]:=id z;refine h {s with heap:=Y} #[I.ok,I.os,I.bare,#[λb o e n P hx=>?_,λb o e n P hx=>?_,I.base.free,λb o e hx=>?_,I.base.dw,I.base.cb,I.base.d9],#[m,hn.sameBut B<|ZV<|lU x c J,λj y v' F O e3=>?_],λy c' e=>?_,I.free,I.cg,λp hp=>?_,C #[oc,hoc,I.cg x c J] B,by simpa using I.len] #[c,B,.inr J]
  .show(B.2 b<|Zw<|Zr (Z3 e)<|I.ok.sM x c S J).trans<|I.base.keep b o e n P hx
  .let#[sl,F]:=I.base.slot b o e n P hx;show#[sl,(B.2 b<|Zw<|Zr (Z3 e)<|I.ok.sM x c S J).trans F]
  .let#[o',F]:=I.base.there b o e hx;show#[o',(B.2 b<|Zw<|Zr (Z3 e)<|I.ok.sM x c S J).trans F]
  .by_cases W:j=i
   .subst W;rw[D]at F;cases F;rw[jw hiU]at O;cases O;show#[u,r,.inr #[.inl hk,c,J,hc']]
   .rw[iy<|ZV W]at O;let#[u',r',q]:=hl j y v' F O e3;calc#[u',r',?_];rcases q with q|⟨k,c',e,z'⟩
    .show .inl q
    .calc .inr #[k,c',e,z'.sameBut B ?_];rintro rfl;show W<|zU hN F<|I.ok.inj _ _ _ e J▸D
  .by_cases hcc:c'=c
   .subst hcc;show#[_,hc']
   .let#[w2,z2]:=I.cell y c' e;show#[w2,z2.sameBut B hcc]
  .let#[e,n,ne,nf,d]:=I.pin p hp;calc#[(B.2 p.1 ?_).trans e,n,ne,nf,d];intro q;rw[q,hoc]at e;have q':=gJ e;show d w'<|by rw[<-q'];show hocd
theorem YJ(I:Inv X V U H s)(k:X.N.Nodup)(D:X.N[i]?=M x)(hx:Loc X.env.scope x)(r:RelV v u) (h:∀s',Inv X V (U.set i<|M v) H s'->Q () s')(m:X.fn x=Zl\/X.env.scope.names.lookup x=M .local:=by assumption):ZB bA A (storeName X.env x u) Q E s:=Oe I k D hx r (λs' j _=>h s' j) m
def Inv.uh(I:Inv X V U H s)(k:s'.os=s.os)(u:Un (fu X.stack) ch H H' s.heap s'.heap)(aA:dk X.prog X.w H' s'.heap)(m:ng s'.gens) (j:∀b∈ch,(b∈X.ex\/X.s₀.heap.objs.size<=b)/\b≠X.env.locals/\(∀x c,X.env.cells.lookup x=M c->c≠b)/\∀p∈X.pn++V,p.1≠b):Inv X V U H' s':=by let#[F,D,B,E,C]:=s';have e:=k;subst e;show I.call u aA m j
end
abbrev XK:=Zu->Tc->Hp->Prop
abbrev St:=Wd
abbrev VK:=bC->Hp->Prop
abbrev TE:=St->Hp->VK->Prop
abbrev TT:=St->Hp->(Bool->Hp->Prop)->Prop
abbrev TA:=St->Hp->(Uc->Hp->Prop)->Prop
structure Ends where
 nx:St->Hp->Prop
 rt:VK
 bk:St->Hp->Prop:=λ_ _=>False
 ct:St->Hp->Prop:=λ_ _=>False
abbrev TS:=Ends->St->Hp->Prop
def EP(X:Cx)(V:bf)(U:St)(Q:VK)(u:Zu)(s':Zy):Prop:=∃v H',Inv X V U H' s'/\RelV v u/\Q v H'
def TP(X:Cx)(V:bf)(U:St)(Q:Bool->Hp->Prop)(b:Bool)(s':Zy):Prop:=∃H',Inv X V U H' s'/\Q b H'
def SP(X:Cx)(V:bf)(bE:Ends)(f:Flow)(s':Zy):Prop:=match f with|.next=>∃U' H',Inv X V U' H' s'/\bE.nx U' H'|.brk=>∃U' H',Inv X V U' H' s'/\bE.bk U' H'|.cont=>∃U' H',Inv X V U' H' s'/\bE.ct U' H'|.ret u=>∃v U' H',Inv X V U' H' s'/\RelV v u/\bE.rt v H'
def PE(X:Cx)(e:Expr)(t:TE):Prop:=∀(V:bf)(s:Zy)(U:St)(H:Hp)(Q:VK),Inv X V U H s->t U H Q->ZB (Z4 X.prog X.w) X.A (bN e X.env) (EP X V U Q) X.xe s
def Of(X:Cx)(st:Tl)(t:TS):Prop:=∀(V:bf)(s:Zy)(U:St)(H:Hp)(bE:Ends),Inv X V U H s->t bE U H->ZB (Z4 X.prog X.w) X.A (execs st X.env) (SP X V bE) X.xe s
theorem sN(h:ZB bA A t Q E s)(j:∀a s,Q a s->Q' a s):ZB bA A t Q' E s:=d6 h j λ_ _ x=>x
section
variable{X:Cx}
def zV(i:Nat):TE:=λU H Q=>∃v,U[i]?=M (M v)/\Q v H
def tC(v:bC):TE:=λ_ H Q=>Q v H
def Og(B:X.N[i]?=M x)(hv:qG X.env.scope x)(hd:(x==("__debug__":Str))=Zm:=by decide)(k:(x==("__classdict__":Str))=Zm:=by decide):PE X (.Name x pos) (zV i):=by
 intro V s U H Q I h;let#[v,e,h]:=h;let#[m,hn,C]:=I.loc;let#[u,r,l]:=C i x v B e hv;have fin:EP X V U Q u s:=#[v,H,I,r,h];rcases l with⟨j,hm⟩|⟨j,c,hc,hcell⟩
 .show wpAny_Name (wpAny_loadName_local I.ok.kind j hn hm fin) hd
 .rcases j with j|j
  .show wpAny_Name (wpAny_loadName_cell I.ok.kind j hc hcell fin) hd
  .show wpAny_Name (wpAny_loadName_free I.ok.kind j hc hcell fin k) hd
theorem Oh{i j pos}:PE X (.Constant (.int i) j pos) (tC<|.int i):=λ_ _ _ H _ I h=>wpAny_Constant_int #[.int i,H,I.tok _,#[_,rfl],h]
theorem Oi{b j pos}:PE X (.Constant (.bool b) j pos) (tC<|.bl b):=λ_ _ _ H _ I h=>Constant_bool #[.bl b,H,I,rfl,h]
theorem Oj{j pos}:PE X (.Constant .none j pos) (tC .aw):=λ_ _ _ H _ I h=>Constant_none #[.aw,H,I,rfl,h]
theorem Ol{x j pos}:PE X (.Constant (.str x) j pos) (tC<|.str x):=λ_ _ _ H _ I h=>Calls.Constant_str #[.str x,H,I.tok _,#[_,rfl],h]
def Gl(X:Cx)(x:Str):Prop:=X.env.kindOf x=M .globalImplicit
theorem VJ(I:Inv X V U H s)(j:Gl X x)(hm:X.mg x=M u)(h:Q u s) (hd:(x==("__debug__":Str))=Zm:=by decide):ZB (Z4 X.prog X.w) X.A (bN (.Name x pos) X.env) Q E s:=Fu I.ok.kind j (Calls.loadGlobal_global (by rw[I.ok.glob];show I.mod.glob.keeps I.bk) hm h) hd
def Q2(I:Inv X V U H s)(m:Gl X x)(hm:X.mg x=Z)(hv:kT x=M u)(h:Q u s) (hn:x≠"__name__":=by decide)(hd:(x==("__debug__":Str))=Zm:=by decide):ZB (Z4 X.prog X.w) X.A (bN (.Name x pos) X.env) Q E s:=by let#[mb,j,k]:=I.mod.blt;show Fu I.ok.kind m (Calls.loadGlobal_builtin (by rw[I.ok.glob];show I.mod.glob.keeps I.bk) hm (by rw[I.ok.blt];show j.keeps I.bk) ((k x hn).trans hv) h) hd
theorem Om(j:Gl X x)(hm:X.mg x=M u)(r:RelV v u)(hd:(x==("__debug__":Str))=Zm:=by decide):PE X (.Name x pos) (tC v):=λ_ _ _ H _ I h=>VJ I j hm #[v,H,I,r,h] hd
variable{a b:Expr}{ta tb:TE}{pos:Pos}
variable{tA tB':TT}{rest:Td}
end
def b8(K:W.Frag)(H:Hp)(a:ZD)(xs:Uc):Prop:=Rd H a (.lst xs) \/ ∃(o:Obj) (its:Ti) (n:Nat),K.lookup a=M o/\o.cls=.type "list"/\o.dict=Z/\o.data=.seq its n/\its.size<=sizeLine/\Vals xs its.toList
def eJ(K:W.Frag)(H:Hp)(a:ZD)(xs:Uc):Prop:=Rd H a (.tup xs) \/ ∃(o:Obj) (its:Ti) (n:Nat),K.lookup a=M o/\o.cls=.type "tuple"/\o.data=.seq its n/\its.size<=sizeLine/\Vals xs its.toList
noncomputable def zW:Zu->Th|.none=>M .aw|.bool b=>M<|.bl b|.int i _=>M<|.int i|.str x _=>M<|.str x|.bytes b _=>M<|.jk b|.float b _=>M<|.wc b|.ref a=>M<|.ref a|.type n=>M<|.ty n|_=>Z
def RelV.abs(r:RelV x u):zW u=M x:=by cases x with|aw=>cases r;rfl|bl _=>cases r;rfl|int _=>let#[t,rfl]:=r;rfl|str _=>let#[t,rfl]:=r;rfl|jk _=>let#[t,rfl]:=r;rfl|wc _=>let#[t,rfl]:=r;rfl|ref _=>cases r;rfl|ty _=>cases r;rfl
theorem RelV.inj(r:RelV x u)(q:RelV y u):x=y:=gJ<|r.abs.symm.trans q.abs
theorem Vals.inj:∀{xs ys:Uc}{us:Tu},Vals xs us->Vals ys us->xs=ys|_,_,_,.nil,.nil=>rfl|_,_,_,.cons r t,.cons r' t'=>by rw[r.inj r',Vals.inj t t']
section
variable{X:Cx}{V:bf}{U:St}{H:Hp}{s:Zy}{a:ZD}{xs ys:Uc}
theorem b8.of{K:W.Frag}(h:H a=M (.lst xs)):b8 K H a xs:=.inl<|.inl h
theorem eJ.of{K:W.Frag}(h:H a=M (.tup xs)):eJ K H a xs:=.inl<|.inl h
def Inv.list(I:Inv X V U H s)(h:b8 X.K H a xs):∃its:Tu,Vals xs its/\PlainL s.heap a its.toArray/\xs.length<=sizeLine:=by
 rcases h with h|⟨o,its,n,hk,hc,hd,hs,hz,r⟩
 .let#[z,its,n,r,e]:=h.ok I.aA;show#[its,r,#[_,n,e,rfl,rfl,rfl],z]
 .calc#[its.toList,r,#[o,n,I.dQ a o hk,hc,hd,by simpa using hs],?_];have e:=r.length;simp at e;show Zb (Zg e) hz
def Inv.tuple(I:Inv X V U H s)(h:eJ X.K H a xs):∃its:Tu,Vals xs its/\IsTup s.heap a its.toArray/\xs.length<=sizeLine:=by
 rcases h with h|⟨o,its,n,hk,hc,hs,hz,r⟩
 .let#[z,its,r,p]:=h.ok I.aA;show#[its,r,p,z]
 .calc#[its.toList,r,#[o,I.dQ a o hk,hc,n,by simpa using hs],?_];have e:=r.length;simp at e;show Zb (Zg e) hz
def Inv.iQ(I:Inv X V U H s)(h:b8 X.K H a xs)(h':b8 X.K H a ys):xs=ys:=by
 let#[k,r,#[o,n,e,_,_,d],_]:=I.list h;let#[j,C,#[D,E,m,_,_,B],_]:=I.list h';rw[e]at m;cases m;rw[d]at B;injection B with d1 _
 have:k=j:=by simpa using congrArg zD d1
 subst this;show r.inj C
def Inv.gu(I:Inv X V U H s)(h:eJ X.K H a xs)(h':eJ X.K H a ys):xs=ys:=by
 let#[k,r,#[o,e,_,n,d],_]:=I.tuple h;let#[j,C,#[D,m,_,E,B],_]:=I.tuple h';rw[e]at m;cases m;rw[d]at B;injection B with d1 _
 have:k=j:=by simpa using congrArg zD d1
 subst this;show r.inj C
end
noncomputable abbrev Cx.br (X:Cx)(E:aL):Cx:={X with xe:=E}
abbrev Cx.Oo(X:Cx):Cx:=X.br λ_ _=>False
theorem Cx.Ok.br{X:Cx}(ok:X.Ok)(E):(X.br E).Ok:=#[ok.mod,ok.kind,ok.glob,ok.blt,ok.above,ok.inj,ok.has,ok.sM,ok.hd,ok.frames,ok.ue,ok.uf,ok.bs,ok.lT,ok.ke,ok.kg,ok.dS,ok.oh]
theorem Cx.Ok.bt{X:Cx}(ok:(X.br E).Ok):X.Ok:=#[ok.mod,ok.kind,ok.glob,ok.blt,ok.above,ok.inj,ok.has,ok.sM,ok.hd,ok.frames,ok.ue,ok.uf,ok.bs,ok.lT,ok.ke,ok.kg,ok.dS,ok.oh]
section
variable{X:Cx}{V:bf}{U:St}{H:Hp}{s:Zy}{E:aL}
theorem Inv.br(I:Inv X V U H s)(E):Inv (X.br E) V U H s:=#[I.ok.br E,I.os,I.bare,I.base,I.loc,I.cell,I.free,I.cg,I.pin,I.aA,I.len]
theorem Inv.bt(I:Inv (X.br E) V U H s):Inv X V U H s:=#[I.ok.bt,I.os,I.bare,I.base,I.loc,I.cell,I.free,I.cg,I.pin,I.aA,I.len]
end
section
variable{X:Cx}{st:gk}{rest:Tl}{t u:TS}{e:Expr}{te:TE}{pos:Pos}
def Inv.quiet(I:Inv X V U H s):interactive X.env=Zm:=by simp[interactive,I.ok.kind]
end
abbrev zX:=bC->bC->bC->Hp->(Hp->Prop)->Prop
def zY(X:Cx)(t:zX):Prop:=∀(V:bf)(s:Zy)(U:St)(H:Hp)(o i v:bC)(ov iv u:Zu)(Q:Hp->Prop),Inv X V U H s->RelV o ov->RelV i iv->RelV v u->t o i v H Q ->ZB (Z4 X.prog X.w) X.A (setItem ov iv u) (λ_ s'=>∃H',Inv X V U H' s'/\Q H') X.xe s
structure It where
 go:Nat->Hp->Prop
 zZ:Nat->Hp->bC->Hp->Prop
 stop:Nat->Hp->Prop
def aH(X:Cx)(V:bf)(H:Hp)(b:ZD):Prop:=H b=Z/\b≠X.env.locals/\b∉X.fs/\(b∈X.ex\/X.s₀.heap.objs.size<=b)/\(∀x c,X.env.cells.lookup x=M c->c≠b)/\∀p∈X.pn++V,p.1≠b
def Inv.dz(I:Inv X V U H s)(j:s.heap.objs.size<=b)(hn:H' b=Z):aH X V H' b:=by
 refine#[hn,dH<|Zr I.lt j,I.zT j,.inr<|Zb I.sz j,λx c e z=>?_,λp hp z=>?_]
 .let#[v,q]:=I.cell x c e;show absurd (Zr q.lt<|by rw[z];show j)<|jP _
 .show absurd (Zr (Z3 (I.pin p hp).1)<|by rw[z];show j)<|jP _
structure Turn(P:ZW)(w:bo)(K:W.Frag)(tg:Expr)(bB:It)(fp:Tv)(it:ZD)(tn:Nat->bp->Prop):Prop where
 mem:it∈fp
 obj:∀i h,tn i h->∀b∈fp,∃o,h.get? b=M o/\∀v,o.data≠.cell v
 keep:∀i h h',tn i h->(∀b∈fp,∀o,h.get? b=M o->h'.get? b=M o)->tn i h'
 item:∀(X:Cx),X.prog=P->X.w=w->X.K=K->X.calm=Zl->∀(i:Nat)(V:bf)(s:Zy)(U:St)(H:Hp)(E:aL),Inv X V U H s->(∀b∈fp,aH X V H b)->tn i s.heap->bB.go i H ->ZB (Z4 P w) X.A (kW<|.ref it) (λr s1=>∃u,r=M u /\ ZB (Z4 P w) X.A (vr tg (.ref it) u) (λ_ s2=>∃x H',Inv X V U H' s2/\RelV x u/\bB.zZ i H x H'/\tn (i+1) s2.heap/\∀b∈fp,H' b=Z) E s1) E s
 done:∀(X:Cx),X.prog=P->X.w=w->X.K=K->X.calm=Zl->∀(i:Nat)(V:bf)(s:Zy)(U:St)(H:Hp)(E:aL),Inv X V U H s->(∀b∈fp,aH X V H b)->tn i s.heap->bB.stop i H ->ZB (Z4 P w) X.A (kW<|.ref it) (λr s1=>r=Z/\Inv X V U H s1) E s
 self:∀(A:bM)(i:Nat)(s:Zy)(Q:aL)(E:aL),tn i s.heap->Q (.ref it) s->ZB (Z4 P w) A (kX<|.ref it) Q E s
def Oq(X:Cx)(V:bf)(U:St)(tg:Expr)(R:It->Hp->Prop)(itv:Zu)(s2:Zy):Prop:=∃(it:ZD)(fp:Tv)(tn:Nat->bp->Prop)(bB:It)(H':Hp),itv=.ref it/\Inv X V U H' s2/\Turn X.prog X.w X.K tg bB fp it tn/\tn 0 s2.heap/\(∀b∈fp,aH X V H' b)/\R bB H'
def wh{bA:Model}{A:bM}{E:aL}{s:Zy}{tg:Expr}{it:ZD}{u:Zu}{o:Obj}{n:String}{O:Ti}{Q:Unit->Zy->Prop}(k:s.heap.get? it=M o)(m:o.cls=.type n)(hd:o.data=.fields O)
  (hn:["enumerate","zip","dict_itemiterator","dict_reverseitemiterator","odict_iterator","itertools.zip_longest","itertools.pairwise"].contains n=Zm)(j:Q () s):ZB bA A (vr tg (.ref it) u) Q E s:=by
 cases tg<;>first
  |show Zp j
  | (cases u<;>first
    |show Zp j
    | (refine Ze (wpAny_load k ?_)
       rw[m,hd];change ZB bA A (if (["enumerate","zip","dict_itemiterator","dict_reverseitemiterator","odict_iterator","itertools.zip_longest","itertools.pairwise"].contains n&&O[0]?==M (cN _))=Zl then _ else _) Q E s;rw[if_neg 05];show Zp j))
def ui(K:W.Frag)(a:ZD):It:=#[λi H=>∃xs x,b8 K H a xs/\xs[i]?=M x,λi H x H'=>H'=H/\∀xs,b8 K H a xs->xs[i]?=M x,λi H=>∃xs,b8 K H a xs/\xs.length<=i]
def Aa(K:W.Frag)(a:ZD):It:=#[λi H=>∃xs x,eJ K H a xs/\xs[i]?=M x,λi H x H'=>H'=H/\∀xs,eJ K H a xs->xs[i]?=M x,λi H=>∃xs,eJ K H a xs/\xs.length<=i]
def wi(lo:Int)(n:Nat):It:=#[λi _=>i<n,λi H x H'=>H'=H/\x=.int (lo+i),λi _=>n<=i]
theorem FH{P:ZW}{w:bo}{K:W.Frag}{tg:Expr}(a it:ZD):Turn P w K tg (ui K a) [it] it (λi h=>h.IsListIter it a i) where
 mem:=03
 obj:=λi h st b j=>by
  have e:b=it:=by simpa using j
  subst e;let#[o,e,c,d]:=st;show#[o,e,λv z=>by rw[d]at z;cases z]
 keep:=λi h h' st k=>st.at λo e=>k it 03 o e
 item:=by
  intro X hP Q F hc i V s U H E I B st Y;subst hP Q F;let#[xs,x,C,hx]:=Y;let#[its,rv,p,hz]:=I.list C;let#[u,hu,ru]:=rv.get hx;let#[D,S,f2,R,J,O]:=B it 03;refine EN st p.isList (by simpa using hu) λh' m sb=>?_
  have I1:=I.turned (t':=s.toks) (λb o j e=>(sb.2 b j).trans e) D S R J O;let#[o,e,c,d]:=id m;show#[u,rfl,wh e c d 01 #[x,H,I1,ru,#[rfl,λys hy=>by rw[I.iQ hy C];show hx],m,λb j=>(B b j).1]]
 done:=by intro X hP Q F hc i V s U H E I B st Y;subst hP Q F;let#[xs,C,hx]:=Y;let#[its,rv,p,hz]:=I.list C;let#[D,S,f2,R,J,O]:=B it 03;have hl:=rv.length;show EO (I.ok.hd hc) st p.isList (by simp;show Zb (Zg hl.symm) hx) λh' eb=>#[rfl,I.turned (λb o j e=>eb b o j e) D S R J O]
 self:=λ_ _ _ _ _ st h=>wpAny_pyIter_listiter st h
theorem Ot{P:ZW}{w:bo}{K:W.Frag}{tg:Expr}(a it:ZD):Turn P w K tg (Aa K a) [it] it (λi h=>h.IsTupleIter it a i) where
 mem:=03
 obj:=λi h st b j=>by
  have e:b=it:=by simpa using j
  subst e;let#[o,e,c,d]:=st;show#[o,e,λv z=>by rw[d]at z;cases z]
 keep:=λi h h' st k=>st.at λo e=>k it 03 o e
 item:=by
  intro X hP Q F hc i V s U H E I B st Y;subst hP Q F;let#[xs,x,C,hx]:=Y;let#[its,rv,p,hz]:=I.tuple C;let#[u,hu,ru]:=rv.get hx;let#[D,S,f2,R,J,O]:=B it 03;refine wpAny_pyNext_tuple_item st (p) (by simpa using hu) λh' m sb=>?_
  have I1:=I.turned (t':=s.toks) (λb o j e=>(sb.2 b j).trans e) D S R J O;let#[o,e,c,d]:=id m;show#[u,rfl,wh e c d 01 #[x,H,I1,ru,#[rfl,λys hy=>by rw[I.gu hy C];show hx],m,λb j=>(B b j).1]]
 done:=by intro X hP Q F hc i V s U H E I B st Y;subst hP Q F;let#[xs,C,hx]:=Y;let#[its,rv,p,hz]:=I.tuple C;let#[D,S,f2,R,J,O]:=B it 03;have hl:=rv.length;show wpAny_pyNext_tuple_end (I.ok.hd hc) st (p) (by simp;show Zb (Zg hl.symm) hx) λh' eb=>#[rfl,I.turned (λb o j e=>eb b o j e) D S R J O]
 self:=λ_ _ _ _ _ st h=>wpAny_pyIter_tupleiter st h
theorem Ou{P:ZW}{w:bo}{K:W.Frag}{tg:Expr}(it:ZD)(lo:Int)(n:Nat):Turn P w K tg (wi lo n) [it] it (λi h=>IsRangeIter h it (lo+(i:Nat)*1) ((n:Int)-(i:Nat)) 1) where
 mem:=03
 obj:=λi h st b j=>by
  have e:b=it:=by simpa using j
  subst e;show#[_,st,λv z=>by have z':=z;cases z']
 keep:=λi h R st k=>k it 03 _ st
 item:=by
  intro X hP Q D O i V s U H E I B st hg;subst hP Q D;let#[C,Y,f2,S,F,J]:=B it 03;have W:=Walks.range (prog:=X.prog) (w:=X.w) (I.ok.hd O) it lo 1 n;refine W.item i s _ _ hg st λv R tk hv m kk=>?_
  let#[t,rfl]:=hv;have I1:Inv X V U H {s with heap:=R,toks:=tk}:=I.turned (λb o j e=>kk b o (by simpa using j) e) C Y S F J;calc#[_,rfl,wh m rfl rfl 01 #[.int<|lo+i,H,I1,#[t,?_],#[rfl,rfl],m,λb j=>(B b j).1]];rw[Int.mul_one]
 done:=by intro X hP Q D O i V s U H E I B st hg;subst hP Q D;let#[C,Y,f2,S,F,J]:=B it 03;show wpAny_pyNext_range_end (I.ok.hd O) st (by have:n<=i:=hg;lia) λR eb=>#[rfl,I.turned (λb o j e=>eb b o j e) C Y S F J]
 self:=λ_ _ _ _ _ st h=>wpAny_pyIter_rangeiter st h
section
variable{X:Cx}{tg:Expr}
def Ov{lo D:Int}(I:Inv X V U H s)(h1: -(2^62)<=lo)(h2:lo<2^62)(h3: -(2^62)<=D)(k:D<2^62)
  (q:R (wi lo (D-lo).toNat) H):ZB (Z4 X.prog X.w) X.A (kX<|.ref s.heap.objs.size) (Oq X V U tg R) E {s with heap:=s.heap.push {cls:=.type "range",data:=.fields (bV [.int lo t,.int D u,.int 1 v])},toks:=tk}:=by
 calc wpAny_pyIter_range (IsRange.new ..) (small_one h1 h2 h3 k) ?_;have I1:Inv X V U H {s with heap:=s.heap.push {cls:=.type "range",data:=.fields (bV [.int lo t,.int D u,.int 1 v])},toks:=tk}:=I.kept λb o e=>Zj _ e
 refine#[(s.heap.push {cls:=.type "range",data:=.fields (bV [.int lo t,.int D u,.int 1 v])}).objs.size,[(s.heap.push {cls:=.type "range",data:=.fields (bV [.int lo t,.int D u,.int 1 v])}).objs.size],_,_,H,rfl,
  I1.kept (t':=tk) λb o e=>Zj _ e,Ou _ lo (D-lo).toNat,?_,λb j=>?_,q]
 .have B:lo+((0:Nat):Int)*1=lo:=03;have m:(((D-lo).toNat:Nat):Int)-((0:Nat):Int)=FA lo D 1:=by rw[rangeSize_one];split<;>lia
  rw[B,m];show Zx _ rfl
 .have e:b=(s.heap.push {cls:=.type "range",data:=.fields (bV [.int lo t,.int D u,.int 1 v])}).objs.size:=by simpa using j
  subst e;show I1.dz (Zk _)<|I1.aA.fresh<|Zk _
def QM(fp:Tv)(h:bp):bf:=fp.filterMap λb=>(h.get? b).map λo=>(b,o)
theorem Y8(j:b∈fp)(e:h.get? b=M o):(b,o)∈QM fp h:=List.mem_filterMap.mpr #[b,j,by rw[e];rfl]
def Ow(hp:p∈QM fp h):p.1∈fp/\h.get? p.1=M p.2:=by let#[b,j,e]:=List.mem_filterMap.mp hp;cases q:h.get? b with|none=>rw[q]at e;cases e|some o=>rw[q]at e;have k:=gJ e;subst k;show#[j,q]
theorem Inv.pinned(I:Inv X V U H s)(C:∀b∈fp,aH X V H b)(E:∀b∈fp,∃o,s.heap.get? b=M o/\∀v,o.data≠.cell v):Inv X (V++QM fp s.heap) U H s:=I.jU λp hp=>(ZQ.mp hp).elim (λz=>I.pin p<|Zt _ z) λz=>by let#[j,e]:=Ow z;let#[B,m,D,_]:=C p.1 j;let#[o,k,d]:=E p.1 j;rw[e]at k;cases k;show#[e,B,m,D,d]
theorem Inv.iR(I:Inv X (V++pl) U H s):Inv X V U H s:=I.jU λp hp=>I.pin p<|Zt _<|iL _ hp
end
abbrev R2:=bC->bC->Hp->VK->Prop
def fQ(X:Cx)(f:Zu->Zu->Sem Zu)(r:R2):Prop:=∀(V:bf)(s:Zy)(U:St)(H:Hp)(x y:bC)(v u:Zu)(Q:VK),Inv X V U H s->RelV x v->RelV y u->r x y H Q ->ZB (Z4 X.prog X.w) X.A (f v u) (EP X V U Q) X.xe s
def Ab(X:Cx)(f:Zu->Sem Zu)(r:bC->Hp->VK->Prop):Prop:=∀(V:bf)(s:Zy)(U:St)(H:Hp)(x:bC)(v:Zu)(Q:VK),Inv X V U H s->RelV x v->r x H Q ->ZB (Z4 X.prog X.w) X.A (f v) (EP X V U Q) X.xe s
def Xe(X:Cx)(f:Zu)(r:Uc->Hp->VK->Prop):Prop:=∀(V:bf)(s:Zy)(U:St)(H:Hp)(xs:Uc)(us:Tu)(Q:VK),Inv X V U H s->Vals xs us->r xs H Q ->ZB (Z4 X.prog X.w) X.A (call f us) (EP X V U Q) X.xe s
def uj(X:Cx)(r:bC->Hp->(Bool->Hp->Prop)->Prop):Prop:=∀(V:bf)(s:Zy)(U:St)(H:Hp)(x:bC)(v:Zu)(Q:Bool->Hp->Prop),Inv X V U H s->RelV x v->r x H Q ->ZB (Z4 X.prog X.w) X.A (truthy v) (TP X V U Q) X.xe s
def rI(C:Int->Int->Prop)(g:Int->Int->bC):R2:=λx y H Q=>∃i j,x=.int i/\y=.int j/\C i j/\Q (g i j) H
def pV(g:Int->Int->bC):R2:=λx y H Q=>∃i j,x=.int i/\y=.int j/\Q (g i j) H
def rU(g:Int->bC):bC->Hp->VK->Prop:=λx H Q=>∃i,x=.int i/\Q (g i) H
section
variable{X:Cx}{a b c:Expr}{ta tb tc:TE}{pos:Pos}
def wj{g:Int->Int->Int} (k:∀(i j:Int)(t u:Tok)(s:Zy)(Q E:aL),C i j->Q (.int (g i j) s.toks) {s with toks:=s.toks+1}->ZB (Z4 X.prog X.w) X.A (f (.int i t)<|.int j u) Q E s):fQ X f (rI C λi j=>.int<|g i j):=by intro V s U H x y v u Q I D m h;let#[i,j,rfl,rfl,F,q]:=h;let#[t,rfl]:=D;let#[B,rfl]:=m;show k i j t B s _ _ F #[.int<|g i j,H,I.tok _,#[_,rfl],q]
def uk{g:Int->Int->Int} (k:∀(i j:Int)(t u:Tok)(s:Zy)(Q E:aL),Q (.int (g i j) s.toks) {s with toks:=s.toks+1}->ZB (Z4 X.prog X.w) X.A (f (.int i t)<|.int j u) Q E s):fQ X f (pV λi j=>.int<|g i j):=by intro V s U H x y v u Q I C m h;let#[i,j,rfl,rfl,q]:=h;let#[t,rfl]:=C;let#[B,rfl]:=m;show k i j t B s _ _ #[.int<|g i j,H,I.tok _,#[_,rfl],q]
def om{g:Int->Int->Bool} (k:∀(i j:Int)(t u:Tok)(s:Zy)(Q E:aL),Q (.bool<|g i j) s->ZB (Z4 X.prog X.w) X.A (f (.int i t)<|.int j u) Q E s):fQ X f (pV λi j=>.bl<|g i j):=by intro V s U H x y v u Q I C m h;let#[i,j,rfl,rfl,q]:=h;let#[t,rfl]:=C;let#[B,rfl]:=m;show k i j t B s _ _ #[.bl<|g i j,H,I,rfl,q]
def Ac(i j:Int):Prop:=0<=j/\j<=1000000/\i.natAbs<2^64
theorem Ox:fQ X (fW .Add) (pV λi j=>.int<|i+j):=uk λ_ _ _ _ _ _ _ q=>add_int q
theorem Oy:fQ X (fW .Sub) (pV λi j=>.int<|i-j):=uk λ_ _ _ _ _ _ _ q=>sub_int q
theorem Oz:fQ X (fW .Mod) (rI (λ_ j=>0<j) λi j=>.int<|i%j):=wj λi j _ _ _ _ _ m q=>by have k:=m;show mod_int' (iA k)<|by rw[Int.fmod_eq_emod_of_nonneg i<|Z2 k];show q
theorem OA:fQ X (fW .Pow) (rI Ac λi j=>.int<|i^j.toNat):=wj λ_ _ _ _ _ _ _ k q=>pow_int_small k.1 k.2.1 k.2.2 q
def wk{g:Int->Int} (j:∀(i:Int)(t:Tok)(s:Zy)(Q E:aL),Q (.int (g i) s.toks) {s with toks:=s.toks+1}->ZB (Z4 X.prog X.w) X.A (f<|.int i t) Q E s):Ab X f (rU λi=>.int<|g i):=by intro V s U H x v Q I k h;let#[i,rfl,q]:=h;let#[t,rfl]:=k;show j i t s _ _ #[.int<|g i,H,I.tok _,#[_,rfl],q]
theorem OB:Ab X (unaryOp .USub) (rU λi=>.int (-i)):=wk λ_ _ _ _ _ q=>neg_int q
end
noncomputable def qH:bC->bC->Bool|.aw,.aw=>Zl|.aw,.int _=>Zl|.int _,.aw=>Zl|.aw,.bl _=>Zl|.bl _,.aw=>Zl|.aw,.str _=>Zl|.str _,.aw=>Zl|.int _,.int _=>Zl|.bl _,.bl _=>Zl|.str _,.str _=>Zl|.jk _,.jk _=>Zl|.int _,.str _=>Zl|.str _,.int _=>Zl|.bl _,.str _=>Zl|.str _,.bl _=>Zl|_,_=>Zm
def OC:R2:=λx y H Q=>qH x y=Zl/\Q (.bl<|decide (x=y)) H
def OD:R2:=λx y H Q=>qH x y=Zl/\Q (.bl (!decide (x=y))) H
def FI:decide (bC.int i=bC.int j)=(i==j):=by rw[tQ];simp
def FJ:decide (bC.bl i=bC.bl j)=(i==j):=by rw[tQ];simp
def FK:decide (bC.str i=bC.str j)=(i==j):=by rw[tQ];simp
def FL:decide (bC.jk i=bC.jk j)=(i.toList==j.toList):=by rw[tQ];cases i;cases j;simp
section
variable{X:Cx}{a b c:Expr}{ta tb tc:TE}{pos:Pos}
def JA(I:Inv X V U H s)(q:Q (.bl k) H)(e:k=k'):EP X V U Q (.bool k') s:=by subst e;show#[.bl k,H,I,rfl,q]
def OE:fQ X (eY .Eq) OC:=by
 intro V s U H x y v u Q I C k h;let#[B,q]:=h;cases x with
 |aw=>cases C;cases y with|aw=>cases k;show PySem.EqNone.eq_none_none<|JA I q 03|bl j=>cases k;show PySem.EqNone.eq_none_bool<|JA I q 03|int j=>let#[m,rfl]:=k;show PySem.EqNone.eq_none_int<|JA I q 03|str j=>let#[m,rfl]:=k;show PySem.EqNone.eq_none_str<|JA I q 03|_=>show absurd (show Zm=Zl from B) Zz
 |bl i=>cases C;cases y with|aw=>cases k;show PySem.EqNone.eq_bool_none<|JA I q 03|bl j=>cases k;show eq_bool<|JA I q FJ|str j=>let#[m,rfl]:=k;show PySem.EqMixed.eq_bool_str<|JA I q 03|_=>show absurd (show Zm=Zl from B) Zz
 |int i=>let#[t,rfl]:=C;cases y with|aw=>cases k;show PySem.EqNone.eq_int_none<|JA I q 03|int j=>let#[m,rfl]:=k;show eq_int<|JA I q FI|str j=>let#[m,rfl]:=k;show PySem.EqMixed.eq_int_str<|JA I q 03|_=>show absurd (show Zm=Zl from B) Zz
 |str i=>let#[t,rfl]:=C;cases y with|aw=>cases k;show PySem.EqNone.eq_str_none<|JA I q 03|bl j=>cases k;show PySem.EqMixed.eq_str_bool<|JA I q 03|int j=>let#[m,rfl]:=k;show PySem.EqMixed.eq_str_int<|JA I q 03|str j=>let#[m,rfl]:=k;show eq_str<|JA I q FK|_=>show absurd (show Zm=Zl from B) Zz
 |jk i=>let#[t,rfl]:=C;cases y with|jk j=>let#[m,rfl]:=k;show W.eq_bytes<|JA I q FL|_=>show absurd (show Zm=Zl from B) Zz
 |_=>cases y<;>show absurd (show Zm=Zl from B) Zz
def OF:fQ X (eY .NotEq) OD:=by
 intro V s U H x y v u Q I C k h;let#[B,q]:=h;cases x with
 |aw=>cases C;cases y with|aw=>cases k;show PySem.EqNone.ne_none_none<|JA I q 03|bl j=>cases k;show PySem.EqNone.ne_none_bool<|JA I q 03|int j=>let#[m,rfl]:=k;show PySem.EqNone.ne_none_int<|JA I q 03|str j=>let#[m,rfl]:=k;show PySem.EqNone.ne_none_str<|JA I q 03|_=>show absurd (show Zm=Zl from B) Zz
 |bl i=>cases C;cases y with|aw=>cases k;show PySem.EqNone.ne_bool_none<|JA I q 03|bl j=>cases k;show ne_bool<|JA I q<|congrArg not FJ|str j=>let#[m,rfl]:=k;show PySem.EqMixed.ne_bool_str<|JA I q 03|_=>show absurd (show Zm=Zl from B) Zz
 |int i=>let#[t,rfl]:=C;cases y with|aw=>cases k;show PySem.EqNone.ne_int_none<|JA I q 03|int j=>let#[m,rfl]:=k;show ne_int<|JA I q<|congrArg not FI|str j=>let#[m,rfl]:=k;show PySem.EqMixed.ne_int_str<|JA I q 03|_=>show absurd (show Zm=Zl from B) Zz
 |str i=>let#[t,rfl]:=C;cases y with|aw=>cases k;show PySem.EqNone.ne_str_none<|JA I q 03|bl j=>cases k;show PySem.EqMixed.ne_str_bool<|JA I q 03|int j=>let#[m,rfl]:=k;show PySem.EqMixed.ne_str_int<|JA I q 03|str j=>let#[m,rfl]:=k;show ne_str<|JA I q<|congrArg not FK|_=>show absurd (show Zm=Zl from B) Zz
 |jk i=>let#[t,rfl]:=C;cases y with|jk j=>let#[m,rfl]:=k;show W.ne_bytes<|JA I q<|congrArg not FL|_=>show absurd (show Zm=Zl from B) Zz
 |_=>cases y<;>show absurd (show Zm=Zl from B) Zz
theorem OG:fQ X (eY .Lt) (pV λi j=>.bl<|decide (i<j)):=om λ_ _ _ _ _ _ _ q=>lt_int q
theorem OH:fQ X (eY .LtE) (pV λi j=>.bl<|decide (i<=j)):=om λ_ _ _ _ _ _ _ q=>le_int q
theorem OI:fQ X (eY .Gt) (pV λi j=>.bl<|decide (j<i)):=om λ_ _ _ _ _ _ _ q=>gt_int q
theorem OJ:fQ X (eY .GtE) (pV λi j=>.bl<|decide (j<=i)):=om λ_ _ _ _ _ _ _ q=>ge_int q
def OL:fQ X (eY .Lt) (λx y H Q=>∃i j,x=.str i/\y=.str j/\Q (.bl<|decide (i.cps.toList<j.cps.toList)) H):=by intro V s U H x y v u Q I m k h;let#[i,j,rfl,rfl,q]:=h;let#[t,rfl]:=m;let#[B,rfl]:=k;show lt_str<|JA I q rfl
def Ad(K:W.Frag)(x:bC)(H:Hp)(k:Bool):Prop:=match x with|.aw=>k=Zm|.bl b=>k=b|.int i=>k=(i != 0)|.str y=>y.length<=sizeLine/\k=((y.length:Int) != 0)|.jk y=>y.size<=sizeLine/\k=((y.size:Int) != 0)|.ref p=>(∃xs,b8 K H p xs/\k=!xs.isEmpty)\/(∃xs,eJ K H p xs/\k=!xs.isEmpty)\/∃kvs,H p=M (.dK kvs)/\k=!kvs.isEmpty|_=>False
def OM(r:KV kvs O):(!O.isEmpty)=!kvs.isEmpty:=by cases r<;>rfl
def FN(r:Vals xs its):(!its.toArray.isEmpty)=!xs.isEmpty:=by cases r<;>simp
def Xq:(sizeLine:Nat)<2^63:=by rw[ju];decide
def VY:uj X (λx H Q=>∃k,Ad X.K x H k/\Q k H):=by
 intro V s U H x v Q I C h;let#[k,e,q]:=h;have R:=Xq;have P:=ju;cases x with
 |aw=>cases C;have j:k=Zm:=e;subst j;show truthy_none #[H,I,q]
 |bl b=>cases C;have j:k=b:=e;subst j;show qb #[H,I,q]
 |int i=>let#[t,rfl]:=C;have j:k=(i != 0):=e;subst j;show PySem.P.truthy_int #[H,I,q]
 |str y=>let#[t,rfl]:=C;obtain⟨J,j⟩:y.length<=sizeLine/\k=((y.length:Int) != 0):=e;subst j;show PySem.P.truthy_str 05 #[H,I.tok _,q]
 |jk y=>let#[t,rfl]:=C;obtain⟨J,j⟩:y.size<=sizeLine/\k=((y.size:Int) != 0):=e;subst j;show W.truthy_bytes (jo 06) #[H,I.tok _,q]
 |ref p=>
  cases C;have j:=e;rcases j with⟨xs,hx,j⟩|⟨xs,hx,j⟩|⟨kvs,hx,j⟩
  .subst j;let#[D,r,pl,E]:=I.list hx;have B:=r.length;show wpAny_truthy_list pl.isList (by simp![fN];lia) #[H,I.tok _,by rw[FN r];show q]
  .subst j;let#[D,r,pl,E]:=I.tuple hx;have B:=r.length;show truthy_tuple pl (by simp![fN];lia) #[H,I.tok _,by rw[FN r];show q]
  .subst j;obtain⟨E,F,O,r,m⟩:kvs.length<=sizeLine/\(p==px)=Zm/\∃O,KV kvs O/\s.heap.DictOf (Vm X.prog X.w) p O:=I.aA p _ hx;have B:=zL r;show wpAny_truthy_dict F m 05 #[H,I.tok _,by rw[OM r];show q]
 |_=>show Zf e
def ON:fQ X (fW .Add) (λx y H Q=>∃i j,x=.str i/\y=.str j/\i.length+j.length<=sizeLine/\Q (.str<|i++j) H):=by intro V s U H x y v u Q I B k h;let#[i,j,rfl,rfl,C,q]:=h;let#[t,rfl]:=B;let#[m,rfl]:=k;show add_str (λm D=>#[.str<|i++j,H,I.tok _,#[_,rfl],q]) C
def Q3(r:Vals [x] us):∃u,us=[u]/\RelV x u:=by cases r with|cons j k=>cases k;show#[_,rfl,j]
def FO(r:Vals [x,y] us):∃u j,us=[u,j]/\RelV x u/\RelV y j:=by
 cases r with|cons B C=>cases C with|cons k m=>cases m;show#[_,_,rfl,B,k]
def OO(B:X.calm=Zl):Xe X (.builtin "max") (λxs H Q=>∃i j,xs=[.int i,.int j]/\Q (.int (if j>i then j else i)) H):=by
 intro V s U H xs C Q I r h;let#[i,j,rfl,q]:=h;let#[u,J,rfl,#[t,rfl],#[E,rfl]]:=FO r;refine max_two_ints (I.ok.hd B) λF D k=>#[_,H,I.kept k,?_,q]
 by_cases m:j>i
 .rw[if_pos m,if_pos m];show#[_,rfl]
 .rw[if_neg m,if_neg m];show#[_,rfl]
def OP(B:X.calm=Zl):Xe X (.builtin "min") (λxs H Q=>∃i j,xs=[.int i,.int j]/\Q (.int (if j<i then j else i)) H):=by
 intro V s U H xs C Q I r h;let#[i,j,rfl,q]:=h;let#[u,J,rfl,#[t,rfl],#[E,rfl]]:=FO r;refine min_two_ints (I.ok.hd B) λF D k=>#[_,H,I.kept k,?_,q]
 by_cases m:j<i
 .rw[if_pos m,if_pos m];show#[_,rfl]
 .rw[if_neg m,if_neg m];show#[_,rfl]
def OQ:Xe X (.type "str") (λxs H Q=>∃i,xs=[.int i]/\i.natAbs.log2<1920/\Q (.str<|toString i) H):=by intro V s U H xs k Q I r h;let#[i,rfl,j,q]:=h;let#[u,rfl,t,rfl]:=Q3 r;show PySem.P.str_of_int j #[.str _,H,I.tok _,#[_,rfl],q]
def Ae(K:W.Frag)(x:bC)(H:Hp)(n:Nat):Prop:=match x with|.str y=>y.length<=sizeLine/\n=y.length|.jk y=>y.size<=sizeLine/\n=y.size|.ref p=>(∃xs,b8 K H p xs/\n=xs.length)\/∃xs,eJ K H p xs/\n=xs.length|_=>False
def wm:Xe X (.builtin "len") (λxs H Q=>∃x n,xs=[x]/\Ae X.K x H n/\Q (.int n) H):=by
 intro V s U H xs F Q I r h;let#[x,n,rfl,e,q]:=h;let#[u,rfl,m]:=Q3 r;have O:=Xq;have J:=ju;cases x with
 |str y=>let#[t,rfl]:=m;obtain⟨D,k⟩:y.length<=sizeLine/\n=y.length:=e;subst k;show len_str 05 #[.int _,H,I.tok _,#[_,rfl],q]
 |jk y=>let#[t,rfl]:=m;obtain⟨D,k⟩:y.size<=sizeLine/\n=y.size:=e;subst k;show W.len_bytes (jo 06) #[.int _,H,I.tok _,#[_,rfl],q]
 |ref p=>
  cases m;have k:=e;rcases k with⟨xs,hx,k⟩|⟨xs,hx,k⟩
  .subst k;let#[C,B,pl,E]:=I.list hx;have j:=B.length;show Calls.call_len_list pl.isList (by simp;lia) #[.int xs.length,H,I.tok _,#[_,by simp![fN];rw[j]],q]
  .subst k;let#[C,B,pl,E]:=I.tuple hx;have j:=B.length;show len_tuple pl (by simp;lia) #[.int xs.length,H,I.tok _,#[_,by simp![fN];rw[j]],q]
 |_=>show Zf e
end
structure jB(h:bp)(x dx C:ZD)(mA:Str->Ta):Prop where
 obj:h.get? x=M (W.instObj C dx)
 ns:h.Ns1 dx mA
 ne:dx≠x
def OR{h:bp}(n:h.Ns1 dx mA):∃od,h.get? dx=M od/\∀name,W.lookIn name od=M (mA name):=by
 let#[o,k,E,C,hd,D,_,hm]:=n;calc#[o,C,λname=>?_];have e:=hm name;unfold nsFind findBy at e;rw[<-Array.find?_toList]at e;unfold W.lookIn;rw[hd];dsimp only;split
 .simp_all
 .rename_i q;rw[q]at e;have a:k.toList.any (·.refKey)=Zm:=by rw[List.any_eq_false];intro y m;let#[z,t,j]:=D y<|Array.mem_toList_iff.mp m;simp[DictEntry.refKey,j]
  have B:¬k.toList.any (·.refKey)=Zl:=by rw[a];show Zz
  rw[if_neg B];show congrArg M e
theorem jB.look(I:jB h x dx C mA):∃od,W.InstAt h x (W.instObj C dx) C (M od)/\∀name,W.lookIn name od=M (mA name):=
 let ⟨od,j,k⟩:=OR I.ns
 #[od,#[I.obj,rfl,rfl,j],k]
section
variable{prog:ZW}{w:bo}{A:bM}{E:aL}{s:Zy}{K:W.Frag}{x dx C f:ZD}{mA:Str->Ta}{name:Str}{v:Zu}
def OS(X:K.In s.heap)(I:jB s.heap x dx C mA)(D:W.plainGet K C name=Zl)(k:W.hasDictIn K C=Zl) (ha:W.findIn K (.ref C) name=M Z)(hv:mA name=M v)(j:W.handedIn v=Zl)(h:Q v {s with toks:=s.toks+1}):ZB (Z4 prog w) A (getAttr (.ref x) name expr) Q E s:=by let#[F,m,B]:=I.look;show W.get_value X m (W.plainGet_of D).1 (W.findObj_own k ha rfl (by rw[B,hv])) j h
def OT(X:K.In s.heap)(I:jB s.heap x dx C mA)(j:W.plainGet K C name=Zl) (B:W.findIn K (.ref C) name=M (M<|.ref f))(k:W.isFn K (.ref f)=Zl)(hv:mA name=Z)(h:Q (.ref f,[.ref x]) s):ZB (Z4 prog w) A (rY (.ref x) name pl) Q E s:=by let#[D,F,m]:=I.look;show W.method_fn X F (W.plainGet_of j).1 (W.plainGet_of j).2 B (beq_iff_eq.mp k) (by change(W.lookIn name D).map (·.isSome)=M Zm;rw[m,hv];rfl) h
def OU(X:K.In s.heap)(I:jB s.heap x dx C mA) (hs:W.findIn K (.ref C) "__setattr__"=M (M<|.builtin "object.__setattr__"))(hp:W.plainOver K C=Zl)(J:W.takerIn K C name=M Z)(R:W.hasDictIn K C=Zl) (U:yW mA ns)(hsz:ns.length<=sizeLine) (h:∀h',jB h' x dx C (λy=>if y=name then M v else mA y)->ka dx s.heap h'->Q () {s with heap:=h',toks:=s.toks+2}):ZB (Z4 prog w) A (setAttr (.ref x) name v) Q E s:=by
 let#[Y,H,hl]:=I.look;refine W.set_plain X H hs<|W.osa_open (r:=Z) X H hp J λb=>?_
 let#[cd,S,B]:=W.any_some R;have hx:=I.obj;calc Ze<|Zp<|Ze<|Ze<|wpAny_loadPart hx<|Ze<|W.Looks.here (W.looks_clsIn X S) ?_;rw[B];calc Zp (a:=M dx)<|Ze<|Zp<|Ze ?_;refine wpAny_nsSet1 I.ns λh' k j=>?_
 let#[V,P,O,F,D,m]:=k.count<|PySem.Within.cons name v U;calc Ze (wpAny_lookBehind F (by rw[D];show pastItsLine_dict<|Zb m<|by rw[ji];show nJ 06) ?_);show Zp<|h _ #[(j.2 _<|ZV I.ne).trans I.obj,k,I.ne] j
def OV(X:K.In s.heap)(hm:W.makesIn K C=Zl) (D:W.findIn K (.ref C) "__init__"=M (M<|.ref f))(j:W.typeIn K (.ref f)=M (.type "function")) (h:j6 (Z4 prog w) (A.under<|.builtin "type.__call__" #[.ref C::O,kw]) (.call (.ref f) #[.ref (s.heap.objs.size+1)::O,kw]) (W.InitBack (s.heap.objs.size+1) R) {s with heap:=(s.heap.push W.emptyDict).push (W.instObj C s.heap.objs.size)}):j6 (Z4 prog w) A (.call (.ref C) #[O,kw]) R s:=by let#[k,g,d,t,os]:=s;show W.make_core (W.makes_of X hm) (W.looks_findIn X D) (λself=>W.bind_fn X self j) (.inl rfl) h
end
noncomputable def cT (f:Str)(v:bC):Wt->Wt|[]=>[(f,v)]|(g,x)::r=>if g=f then(g,v)::r else(g,x)::cT f v r
theorem FP(f g)(v):∀fs:Wt,(cT f v fs).lookup g=if g=f then M v else fs.lookup g
 |[]=>by
  change sv g [(f,v)]=_;by_cases h:g=f
  .simp_all
  .simp_all
 |(k,x)::r=>by
  have B:=FP f g v r;rw[show cT f v ((k,x)::r)=(if k=f then(k,v)::r else(k,x)::cT f v r)from rfl];by_cases j:k=f
  .rw[if_pos j];by_cases h:g=k
   .simp_all
   .have m:(g==k)=Zm:=beq_eq_false_iff_ne.mpr h;simp![sv,m,if_neg λe:g=f=>h<|e.trans j.symm]
  .rw[if_neg j];by_cases h:g=k
   .simp_all
   .have m:(g==k)=Zm:=beq_eq_false_iff_ne.mpr h;simp![sv,m];show B
theorem Af(f)(v):∀fs:Wt,f∈(cT f v fs).map (·.1)/\∀g,g∈fs.map (·.1)->g∈(cT f v fs).map (·.1)
 |[]=>#[by simp[cT],λg h=>by simp at h]
 |(k,x)::r=>by
  let#[B,j]:=Af f v r;rw[show cT f v ((k,x)::r)=(if k=f then(k,v)::r else(k,x)::cT f v r)from rfl];by_cases m:k=f
  .simp_all
  .rw[if_neg m];refine#[?_,λg h=>?_]
   .simp_all
   .rw[eP]at h ⊢;rcases ZC.mp h with e|e
    .show ZC.mpr<|.inl e
    .show Zq _<|j g e
theorem FQ(f)(v):∀fs:Wt,(cT f v fs).length<=fs.length+1
 |[]=>by simp[cT]
 |(k,x)::r=>by
  have j:=FQ f v r;rw[show cT f v ((k,x)::r)=(if k=f then(k,v)::r else(k,x)::cT f v r)from rfl];by_cases m:k=f
  .simp_all
  .simp_all
def dJ.some_of(r:dJ (M v) o):∃u,o=M u/\RelV v u:=by
 cases o with
 |none=>show(r).elim
 |some u=>show#[u,rfl,r]
def dJ.none_of(r:dJ Z o):o=Z:=by cases o with|none=>rfl|some u=>show(r).elim
def OW(r:RelV v u):W.handedIn u=Zl:=by cases v with|aw=>cases (r);rfl|bl b=>cases (r);rfl|int i=>let#[t,e]:=(r);cases e;rfl|str x=>let#[t,e]:=(r);cases e;rfl|jk b=>let#[t,e]:=(r);cases e;rfl|wc b=>let#[t,e]:=(r);cases e;rfl|ref a=>cases (r);rfl|ty n=>cases (r);rfl
section
variable{P:ZW}{w:bo}{H H':Hp}{h h':bp}{a C dx:ZD}{fs fs':Wt}
def wq(aA:dk P w H h)(e:H a=M (.ins C dx fs)):∃mA,jB h a dx C mA/\(∀f,dJ (fs.lookup f)<|mA f)/\yW mA (fs.map (·.1))/\fs.length<=1000/\H dx=M (.own a):=by let#[d,z,ne,ob,mA,n,r,q]:=(aA a _ e);show#[mA,#[ob,n,ne],r,q,z,d]
end
structure nk(K:W.Frag)(C:ZD):Prop where
 pg:W.plainGet K C Str.empty=Zl
 hd:W.hasDictIn K C=Zl
 po:W.plainOver K C=Zl
 sa:W.findIn K (.ref C) "__setattr__"=M (M<|.builtin "object.__setattr__")
theorem nk.get{K:W.Frag}(c:nk K C)(f):W.plainGet K C f=Zl:=c.pg
def QZ(K:W.Frag)(C:ZD)(f:Str):Prop:=W.findIn K (.ref C) f=M Z
def QZ.um{K:W.Frag}(n:QZ K C f):W.takerIn K C f=M Z:=by unfold W.takerIn;rw[show W.findIn K (.ref C) f=M Z from n];rfl
structure Meth(K:W.Frag)(C:ZD)(m:Str)(f:ZD):Prop where
 at_:W.findIn K (.ref C) m=M (M<|.ref f)
 fn:W.isFn K (.ref f)=Zl
 kp:W.keepIn K (.ref f)=Zl
section
variable{X:Cx}{V:bf}{U:St}{H:Hp}{s:Zy}{a C dx:ZD}{fs:Wt}{f:Str}{v:bC}{A:bM}{E:aL}
def FR(I:Inv X V U H s)(e:H a=M (.ins C dx fs))(c:nk X.K C)(n:QZ X.K C f)(l:fs.lookup f=M v) (h:∀u s',Inv X V U H s'->RelV v u->Q u s'):ZB (Z4 X.prog X.w) A (getAttr (.ref a) f b) Q E s:=by
 let#[B,k,r,_,_,_]:=wq I.aA e;let#[u,m,j]:=dJ.some_of<|by rw[<-l];show r f
 show OS I.dQ k (c.get f) c.hd n m (OW j)<|h u _ (I.tok _) j
def FT(I:Inv X V U H s)(e:H a=M (.ins C dx fs))(c:nk X.K C)(k:Meth X.K C m g)(l:fs.lookup m=Z) (h:Q (.ref g,[.ref a]) s):ZB (Z4 X.prog X.w) A (rY (.ref a) m pl) Q E s:=by
 let#[B,j,r,_,_,_]:=wq I.aA e;have hn:=dJ.none_of<|by rw[<-l];show r m
 show OT I.dQ j (c.get m) k.at_ k.fn hn h
def FU(I:Inv X V U H s)(e:H a=M (.ins C dx fs))(c:nk X.K C)(n:QZ X.K C f)(hl:fs.length<1000)(O:RelV y u) (h:∀s',Inv X V U (upd H a<|.ins C dx<|cT f y fs) s'->Q () s'):ZB (Z4 X.prog X.w) A (setAttr (.ref a) f u) Q E s:=by
 let#[m,j,r,B,_,D]:=wq I.aA e;have R:(fs.map (·.1)).length<=sizeLine:=by rw[Zn,ju];show jo 06
 refine OU I.dQ j c.sa c.po n.um c.hd B R λS k sb=>h _ ?_
 have hd:∃o,S.get? dx=M o:=let ⟨o,_,_,J,_⟩:=k.ns;#[o,J];calc I.write (by rw[e];show fj) (.inr D) (λb q F z=>(sb.2 b F).trans z) hd ?_;refine#[by rw[Jw j.ne];show D,?_,j.ne,k.obj,_,k.ns,λg=>?_,λg P=>?_]
 .have:=FQ f y fs;show Zb this hl
 .change dJ ((cT f y fs).lookup g) (if g=f then M u else m g);rw[FP];by_cases q:g=f
  .rw[if_pos q,if_pos q];show O
  .simp_all
 .by_cases q:g=f
  .rw[q];show(Af f y fs).1
  .calc(Af f y fs).2 g (B g λz=>P ?_);change(if g=f then M u else m g)=Z;rw[if_neg q];show z
def Inv.made(I:Inv X V U H s):Inv X V U (upd (upd H s.heap.objs.size<|.own<|s.heap.objs.size+1) (s.heap.objs.size+1)<|.ins C s.heap.objs.size []) {s with heap:=(s.heap.push W.emptyDict).push (W.instObj C s.heap.objs.size)}:=by
 have j:(s.heap.push W.emptyDict).get? s.heap.objs.size=M W.emptyDict:=Zx s.heap rfl;have B:((s.heap.push W.emptyDict).push<|W.instObj C s.heap.objs.size).get? (s.heap.objs.size+1)=M (W.instObj C s.heap.objs.size):=by have:=Zx (s.heap.push W.emptyDict) (o:=W.instObj C s.heap.objs.size) rfl;rwa [sx]at this
 have m:(s.heap.push W.emptyDict).Ns s.heap.objs.size (λ_=>Z):=#[W.emptyDict,#[],_,j,rfl,(λe D=>absurd D 03),λ_=>rfl];have I1:=I.laid (o:=.own<|s.heap.objs.size+1) (t':=s.toks) (λb u q=>Zj _ q) (Zk _) #[_,j];calc I1.laid (λb u q=>Zj _ q) (Zg<|sx _ _) ?_;have ne:s.heap.objs.size≠s.heap.objs.size+1:=Zw<|ZY _;calc#[by rw[Jw ne,J4],ZF _,ne,B,λ_=>Z,(Heap.Ns1.of_empty m).at λo q=>Zj _ q,λ_=>fj,λy k=>absurd rfl k]
theorem OX(j:tp e f env (bN e env)=bN e env) (h:ZB (Z4 prog w) A (bN e env) (λo s₁=>ZB (Z4 prog w) A (getAttr o f Zl) Q E s₁) E s):ZB (Z4 prog w) A (bN (.Attribute e f pos) env) Q E s:=Attribute_any_ h (by rw[arm_eval_Attribute,j])
end
structure aY(k:Nat)(A:bM):Prop where
 hd:A.handled=Z
 dp:A.depth+3*k+5<recursionLimit
 un:A.units+16*k+200<cLine
theorem aY.mono(r:aY k A)(h:j<=k):aY j A:=#[r.hd,by have:=r.dp;lia,by have:=r.un;lia]
theorem aY.deeper(r:aY (k+1) A)(env):aY k (A.deeper env):=#[r.hd,by have:=r.dp;change A.depth+1+3*k+5<_;lia,by have:=r.un;change A.units+3+16*k+200<_;lia]
theorem aY.in1(r:aY (k+1) A):aY k A.in1:=#[r.hd,by have:=r.dp;change A.depth+3*k+5<_;lia,by have:=r.un;change A.units+1+16*k+200<_;lia]
theorem OY{A:bM}:(A.under<|.builtin "type.__call__" #[.ref C::us,kw]).depth=A.depth+1:=rfl
def OZ{A:bM}:(A.under<|.builtin "type.__call__" #[.ref C::us,kw]).units=A.units+1:=by first|rfl|simp
theorem aY.make(r:aY (k+1) A)(C)(us)(kw):aY k (A.under<|.builtin "type.__call__" #[.ref C::us,kw]):=#[r.hd,by have:=r.dp;rw[OY];lia,by have:=r.un;rw[OZ];lia]
def aY.depth(r:aY k A):A.depth<recursionLimit:=by have:=r.dp;show Zb (Zd _ 5)<|Zb (Zc (Zc (Zd _ _) 1) 5) this
def aY.units(r:aY k A):A.units+64<cLine:=by have:=r.un;show Zb (Zd _ 136)<|Zb (Zc (Zc (Zd _ _) 65) 136) this
abbrev Sp:=Uc->Hp->VK->XK->Prop
abbrev uo:=Tk->Hp->Zy->XK->aL
structure jC(P:ZW)(w:bo)(K:W.Frag)(mg:Str->Ta)(base:bp)(A:bM)(outer:Tk)(s:Zy)(H:Hp):Prop where
 frames:A.frames=M outer
 mod:Mod K mg base
 bs:∀b o,base.get? b=M o->s.heap.get? b=M o/\H b=Z
 lT:base.objs.size<=s.heap.objs.size
 dS:s.heap.FunFrames base outer
 oh:∀b∈fu outer,H b=Z
 aA:dk P w H s.heap
 bare:ng s.gens
def CE(outer:Tk)(P:ZW)(w:bo)(H:Hp)(s:Zy)(Q:VK)(u:Zu)(s':Zy):Prop:=∃v H',s'.os=s.os/\ng s'.gens/\Un (fu outer) [] H H' s.heap s'.heap/\dk P w H' s'.heap/\RelV v u/\Q v H'
def CR(CX:uo)(outer:Tk)(P:ZW)(w:bo)(H:Hp)(s:Zy)(Q:VK)(E:XK)(r:se)(s':Zy):Prop:=match r with|.ok (.ret u)=>CE outer P w H s Q u s'|.ok _=>False|.error e=>CX outer H s E e s'
structure cq(P:ZW)(w:bo)(K:W.Frag)(mg:Str->Ta)(base:bp)(CX:uo)(k:Nat)(f:ZD)(fd:j5)(ps:Tj)(sp:Sp):Prop where
 len:∀O H Q E,sp O H Q E->O.length=ps.length
 run:∀(A:bM)(outer:Tk)(s:Zy)(H:Hp)(args:Args)(us:Tu)(O:Uc)(Q:VK)(E:XK),aY k A->jC P w K mg base A outer s H->r8 s fd args (ps.zip us)->Vals O us->sp O H Q E ->j6 (Z4 P w) A (.call (.ref f) args) (CR CX outer P w H s Q E) s
theorem cq.imp{K:W.Frag}(F:cq P w K mg base CX k f fd ps sp) (h:∀O H Q E,sp' O H Q E->sp O H Q E):cq P w K mg base CX k f fd ps sp':=#[λO H Q E q=>F.len O H Q E<|h _ _ _ _ q,λA outer s H j C O Q E I D m hv B=>F.run A outer s H j C O Q E I D m hv<|h _ _ _ _ B]
theorem jC.make{K:W.Frag}(e:jC P w K mg base A outer s H)(C)(us)(kw):jC P w K mg base (A.under<|.builtin "type.__call__" #[.ref C::us,kw]) outer s H:=#[by first|show e.frames|(simpa[Code.envs]using e.frames),e.mod,e.bs,e.lT,e.dS,e.oh,e.aA,e.bare]
section
variable{X:Cx}{V:bf}{U:St}{H:Hp}{s s':Zy}
theorem Inv.qI(I:Inv X V U H s):jC X.prog X.w X.K X.mg X.base X.A X.stack s H:=#[I.ok.frames,I.ok.mod,I.bs,Zb I.ok.lT I.sz,I.stack,I.e8,I.aA,I.bare]
def Inv.after(I:Inv X V U H s)(h:CE X.stack X.prog X.w H s Q u s'):EP X V U Q u s':=by let#[v,k,os,bare,un,aA,r,q]:=h;let#[m,g,d,t,j]:=s';obtain rfl:j=s.os:=os;show#[v,k,I.call un aA bare λb z=>absurd z 03,r,q]
end
def Qj(K:W.Frag)(fd:j5)(ps:Tj)(ds:Tu):Prop:=∀(s:Zy)(us:Tu),K.In s.heap->(us++ds).length=ps.length->r8 s fd #[us,[]] (ps.zip<|us++ds)
theorem Qj.all{K:W.Frag}(h:∀us:Tu,us.length=ps.length->tD fd #[us,[]]=pure (ps.zip us)):Qj K fd ps []:=λs us _ j=>by rw[lL]at j ⊢;show .of_eq<|h us j
section
variable{X:Cx}{CX:uo}{k:Nat}{f C:ZD}{fd:j5}{ps:Tj}{sp:Sp}{bI:Uc}{ds:Tu}{E:XK}{x m:Str}{p pos apos:Pos}{e o:Expr}{es:Td}{ta:TE}{t:TA}
structure Mk(K:W.Frag)(C f:ZD):Prop where
 makes:W.makesIn K C=Zl
 init:W.findIn K (.ref C) "__init__"=M (M<|.ref f)
 fn:W.isFn K (.ref f)=Zl
 kp:W.keepIn K (.ref C)=Zl
end
structure dU(N P:Tj)(sc:eO):Prop where
 kind:sc.kind=.function
 co:sc.isCoroutine=Zm
 gen:sc.isGenerator=Zm
 nd:N.Nodup
 pre:N.take P.length=P
 par:∀x∈P,sc.names.lookup x=M .local\/sc.names.lookup x=M .cell
 qJ:∀y∈sc.names,y.2≠.free
theorem FV{kindOf:Str->Wx}:∀{binds:Wm}{m:Str->Ta},(∀v,(x,v)∉binds)->bindL kindOf binds m x=m x
 |[],_,_=>rfl
 |(n,v)::r,m,h=>by
  unfold bindL;rw[FV λw j=>h w<|Zq _ j];split
  .have:x≠n:=by rintro rfl;show h v ZA
   simp[this]
  .rfl
theorem FW{kindOf:Str->Wx}:∀{binds:Wm}{m:Str->Ta},(∀v,(x,v)∉binds)->bindC kindOf binds m x=m x
 |[],_,_=>rfl
 |(n,v)::r,m,h=>by
  unfold bindC;rw[FW λw j=>h w<|Zq _ j];split
  .rfl
  .have:x≠n:=by rintro rfl;show h v ZA
   simp[this]
theorem FX{kindOf:Str->Wx}:∀{P:Tj}{O:Tu}{i:Nat}{m:Str->Ta},P.Nodup->P[i]?=M x->O[i]?=M v->kindOf x=M .local ->bindL kindOf (P.zip O) m x=M v
 |[],_,_,_,_,h,_,_=>by simp at h
 |_::_,[],_,_,_,_,h,_=>by simp at h
 |p::P,w::O,0,m,nd,h1,h2,hk=>by simp at h1 h2;subst h1;subst h2;change bindL kindOf ((p,w)::P.zip O) m p=_;unfold bindL;rw[FV λv hv=>(sj.mp nd).1 (zd hv).1,if_pos hk];simp
 |p::P,w::O,i+1,m,nd,h1,h2,hk=>by unfold bindL;show FX (i:=i) (sj.mp nd).2 (by simpa using h1) (by simpa using h2) hk
theorem FY{kindOf:Str->Wx}:∀{P:Tj}{O:Tu}{i:Nat}{m:Str->Ta},P.Nodup->P[i]?=M x->O[i]?=M v->kindOf x≠M .local ->bindC kindOf (P.zip O) m x=M v|[],_,_,_,_,h,_,_=>by simp at h|_::_,[],_,_,_,_,h,_=>by simp at h|p::P,w::O,0,m,nd,h1,h2,hk=>by simp at h1 h2;subst h1;subst h2;change bindC kindOf ((p,w)::P.zip O) m p=_;unfold bindC;rw[FW λv hv=>(sj.mp nd).1 (zd hv).1,if_neg hk];simp|p::P,w::O,i+1,m,nd,h1,h2,hk=>by unfold bindC;show FY (i:=i) (sj.mp nd).2 (by simpa using h1) (by simpa using h2) hk
noncomputable def start (N:Tj)(O:Uc):St:=O.map M++fX (N.length-O.length) Z
noncomputable def kh (CX:uo)(P:ZW)(w:bo)(K:W.Frag)(mg:Str->Ta)(base:bp)(N:Tj)(qual:Str)(scope:eO)(f:ZD)(cd:Zu)(A:bM)(outer:Tk)(s:Zy)(H:Hp)(E:XK):Cx where
 prog:=P
 w:=w
 K:=K
 mg:=mg
 base:=base
 A:=A.deeper<|og qual scope s.heap.objs.size f cd
 N:=N
 s₀:=s
 H₀:=H
 env:=og qual scope s.heap.objs.size f cd
 outer:=outer
 stack:=og qual scope s.heap.objs.size f cd::outer
 ex:=[]
 calm:=Zl
 fn:=λ_=>Zl
 pn:=[]
 xe:=λe s'=>ZB (Z4 P w) (A.deeper<|og qual scope s.heap.objs.size f cd) (leaving (og qual scope s.heap.objs.size f cd) e) (λ_ s''=>CX outer H s E e s'') (λe' s''=>CX outer H s E e' s'') s'
def FZ{sc:eO}(h:sc.names.lookup x=M .cell):∃c,(cellsFrom n sc.names []).lookup x=M c:=by have q:=W.cellsFrom_some sc.names n []<|.inl h;show sW.mp q
def O0{K:W.Frag} (S:dU N ps scope)(hd:A.handled=Z)(m:jC P w K mg base A outer s H)(hl:O.length=ps.length)(r:Vals O us) (x:InCallC s s.heap.objs.size (bindL (og qual scope s.heap.objs.size f cd).kindOf (ps.zip us) λ_=>Z) (cellsFrom (s.heap.objs.size+1) scope.names []) (bindC (og qual scope s.heap.objs.size f cd).kindOf (ps.zip us) λ_=>Z) s1):Inv (kh CX P w K mg base N qual scope f cd A outer s H E) [] (start N O) H s1:=by
 have I:ps.length<=N.length:=by have:=congrArg List.length S.pre;rw[pM]at this;show Zb (Zg this.symm)<|jr _ _
 let#[F,V,rfl,J]:=x.done;have iS:∀b:ZD,b∉(kh CX P w K mg base N qual scope f cd A outer s H E).ex:=λb z=>absurd (show b∈([]:Tv)from z) 03
 refine#[#[m.mod,S.kind,rfl,rfl,Zk _,λy z c F j=>?_,λy B=>?_,λy c _ h=>?_,λ_=>hd,Around.frames_deeper m.frames,.inr #[rfl,rfl],λb z=>absurd z<|iS b,m.bs,m.lT,λb _ _=>iS b,λb z=>absurd z<|iS b,m.dS,m.oh],rfl,m.bare,Un.kept J,#[_,x.toInCall.ns,λi y v F j U=>?_],λy c h=>#[_,x.cell y c h],m.aA.fresh<|Zk _,λy c h=>?_,λp hp=>absurd (show p∈([]:bf)from hp) 03,m.aA.kept J,?_]
 .show name_of_addr x.apart (j3 F)<|j3 j
 .have B:scope.names.lookup y=M .cell\/scope.names.lookup y=M .free:=B;rcases B with B|B
  .show FZ B
  .show absurd rfl (S.qJ _<|j3 B)
 .show Zo<|x.above y c<|j3 h
 .have D:i<O.length:=by
   unfold start at j;by_cases D:i<O.length
   .show D
   .rw[jS<|by simpa using D]at j;rw[vF]at j;split at j<;>cases j
  have ha:O[i]?=M v:=by unfold start at j;rw[ZU (by simpa using D),ZI]at j;cases e:O[i]? with|none=>rw[e]at j;cases j|some a=>rw[e]at j;cases j;rfl
  let#[u,Q,R]:=r.get ha;have hp:ps[i]?=M y:=by rw[<-S.pre,EV<|jq 06 06];show F
  have C:ps.Nodup:=by rw[<-S.pre];show S.nd.sublist<|List.take_sublist _ _
  calc#[u,R,?_];rcases S.par y (tK hp)with k|k
  .show .inl #[k,FX C hp Q k]
  .let#[c,e]:=FZ k;calc .inr #[.inl k,c,e,?_];have q:=x.cell y c e;rw[FY C hp Q (by change scope.names.lookup y≠_;rw[k];decide)]at q;show q
 .show m.aA.fresh<|Zo<|x.above y c<|j3 h
 .unfold start;change _=N.length;rw[ZM,Zn,tH];show jh<|Zb (Zg hl) I
def O2{K:W.Frag}{dV kV J pm j ct oc:Zu} (lk:K.lookup f=M #[oc,od,.func<|W.fnOf name qual params body scope dV kV J pm an j ct,osl])(X:W.codeIn K j qual=Zl)(S:dU N ps scope) (len:∀O H Q E,sp O H Q E->O.length=ps.length) (hbody:∀(A:bM)(outer:Tk)(s:Zy)(H:Hp)(O:Uc)(Q:VK)(E:XK),aY k (A.deeper<|og qual scope s.heap.objs.size f j)->sp O H Q E ->∃t,Of (kh CX P w K mg base N qual scope f j A outer s H E) body t/\t {nx:=λ_ H'=>Q .aw H',rt:=Q} (start N O) H):cq P w K mg base CX (k+1) f (W.fnOf name qual params body scope dV kV J pm an j ct) ps sp:=by
 calc#[len,λA outer s H args us O Q E Y F hb r D=>?_];have hl:=len _ _ _ _ D;have KX:=F.mod.qF.keeps λb o e=>(F.bs b o e).1
 have lim:=F.mod.nolimit.keeps λb o e=>(F.bs b o e).1
 have B:∀y∈ps.zip us,scope.names.lookup y.1=M .local\/(scope.names.lookup y.1=M .cell/\((cellsFrom (s.heap.objs.size+1) scope.names []).lookup y.1).isSome=Zl):=λ⟨n,v⟩ hy=>by
  rcases S.par n (zd hy).1 with q|q
  .show .inl q
  .show .inr #[q,W.cellsFrom_some _ _ _<|.inl q]
 calc codeAny_call_function Y.depth (KX _ _ lk) rfl S.co S.gen rfl (W.codeRec_of KX X) (hb _ _ _ _ ?_);refine wpAny_newFunctionEnv_cells S.kind B λenv he s1 x=>?_
 subst he;calc#[lim.keeps x.toInCall.keep,codeAny_func ?_];let#[t,ht,hq]:=hbody A outer s H O Q E (Y.deeper _) D;have I:Inv (kh CX P w K mg base N qual scope f j A outer s H E) [] (start N O) H s1:=O0 S Y.hd F hl r x;refine d6 (ht [] s1 (start N O) H _ I hq) (λfl U C=>?_) λe U C=>C
 have fin:∀{R:St}{H':Hp}{v:bC}{u:Zu},Inv (kh CX P w K mg base N qual scope f j A outer s H E) [] R H' U->RelV v u->Q v H'->CE outer P w H s Q u U:=λ{R H' v u} m V q=>#[v,H',m.os,m.bare,m.base,m.aA,V,q];cases fl with|ret u=>let#[v,R,H',m,V,q]:=C;show fin m V q|next=>let#[R,H',m,q]:=C;show fin (v:=bC.aw) m rfl q|brk=>let#[_,_,_,q]:=C;show kc q|cont=>let#[_,_,_,q]:=C;show kc q
end L2
namespace HT
open PySem PyProof.Rows
section
variable{prog:ZW}{w:bo}{A:bM}{E:aL}{s:Zy}
def oo(S:IsTup s.heap t O.toArray)(R:IsTup s.heap b ws.toArray)(hv:O≠[])
  (h1:ws=[]->Q (.ref t) s)(h2:ws≠[]->Q (.ref s.heap.objs.size) {s with heap:=s.heap.push {cls:=.type "tuple",data:=.seq (O++ws).toArray} })
  (hsz:O.length+ws.length<=sizeLine):ZB (Z4 prog w) A (fW .Add (.ref t)<|.ref b) Q E s:=by
 let#[#[cls,J,data,I],B,U,n,hd]:=id S;let#[#[P,k,D,m],j,H,n2,F]:=id R;subst U hd H F;have e:O.toArray++ws.toArray=(O++ws).toArray:=03;by_cases C:ws=[]
 .show concat_meets #[_,B,rfl] #[_,j,rfl] noFill_tuple_add seq_tuple_add Fm Fi (Fh _ _)
   (tuple_addW1 t b O.toArray ws.toArray n n2 J k I m (by simpa using hv)<|by simp[C]) #[B,j,h1 C]
 .refine concat_meets #[_,B,rfl] #[_,j,rfl] noFill_tuple_add seq_tuple_add Fm Fi (Fh _ _)
   (tuple_addW2 t b O.toArray ws.toArray n n2 J k I m (by simpa using hv) (by simpa using C)<|by simp_all) #[B,j,?_]
  rw[e];show h2 C
noncomputable def fZ (n d:Nat):Wy->Nat|none=>d|some v=>if v<0 then(v+(n:Int)).toNat else min v.toNat n
theorem lV(n d):fZ n d Z=d:=rfl
theorem jV(n d k:Nat):fZ n d (M (k:Int))=min k n:=rfl
end
end HT
namespace L2
open PySem PySem.Spec PyProof.Rows
abbrev TO:=St->Hp->(Wy->Hp->Prop)->Prop
section
variable{X:Cx}{e:Expr}{te:TE}{lo D:Wu}{tl th:TO}{pos p2:Pos}
def F0(X:Cx)(r:bC->Wy->Wy->Hp->VK->Prop):Prop:=∀(V:bf)(s:Zy)(U:St)(H:Hp)(x:bC)(v vl vu:Zu)(lo D:Wy)(sl:ZD)(Q:VK),Inv X V U H s->RelV x v->s.heap.IsSliceOf sl vl vu .none->ql vl lo->ql vu D->r x lo D H Q ->∃T id,vA (.type T) "__getitem__"=pure (M<|.builtin id)/\s.TypeIs v T/\ZB (Z4 X.prog X.w) X.A (pE v<|.ref sl) (EP X V U Q) X.xe s
def lW(xs:Uc)(lo D:Wy):Uc:=(xs.drop<|HT.fZ xs.length 0 lo).take<|HT.fZ xs.length xs.length D-HT.fZ xs.length 0 lo
def O3(xs)(lo D):(lW xs lo D).length<=xs.length:=by unfold lW;rw[pM,vK];show Zb (jr _ _)<|eX _ _
def O4(K:W.Frag):R2:=λx y H Q=>∃a b xs ys,x=.ref a/\y=.ref b/\eJ K H a xs/\eJ K H b ys/\xs≠[]/\xs.length+ys.length<=sizeLine /\ (ys=[]->Q (.ref a) H)/\(ys≠[]->∀p,H p=Z->Q (.ref p) (upd H p<|.tup<|xs++ys))
def Vals.gO(r:Vals xs us):us=[]↔xs=[]:=by cases r with|nil=>simp|cons _ _=>simp
def O5:fQ X (fW .Add) (O4 X.K):=by
 intro V s U H x y v u Q I J F h;let#[a,b,xs,R,rfl,rfl,ha,C,hx,B,D,O]:=h;cases J;cases F;let#[P,k,p1,_]:=I.tuple ha;let#[m,j,E,_]:=I.tuple C;refine HT.oo p1 E (λz=>hx<|k.gO.mp z) (λz=>#[.ref a,H,I,rfl,D<|j.gO.mp z]) (λz=>?_)<|by rw[<-k.length,<-j.length];show B
 calc#[.ref s.heap.objs.size,_,I.laid (λb ob q=>Zj _ q) (Zk _) ?_,rfl,O (λw=>z<|j.gO.mpr w) _<|I.aA.fresh<|Zk _];show#[by rw[ZM];show B,_,k.append j,IsTup.new _ _]
end
noncomputable def ki (n:Nat)(i:Int):Wz:=if 0<=i then(if i<n then M i.toNat else Z)else if -(n:Int)<=i then M (i+n).toNat else Z
noncomputable def bq {α:Type}(xs:List α)(i:Int):Option α:=(ki xs.length i).bind λj=>xs[j]?
def F2(h:ki n i=M j):seqIndex? i n=M j/\j<n/\ -(n:Int)<=i/\i<n:=by
 unfold ki at h;by_cases m:0<=i
 .rw[if_pos m]at h;by_cases k:i<n
  .rw[if_pos k]at h;have e:=gJ h;show#[by rw[vw m k,e],05,05,k]
  .lia
 .rw[if_neg m]at h;by_cases k: -(n:Int)<=i
  .rw[if_pos k]at h;have e:=gJ h;show#[by rw[yX (gp.mp m) k,e],05,k,ZR (gp.mp m)<|iM _]
  .lia
def wt(h:bq xs i=M v):∃j,seqIndex? i xs.length=M j/\xs[j]?=M v/\j<xs.length/\ -(xs.length:Int)<=i/\i<xs.length:=by unfold bq at h;cases e:ki xs.length i with|none=>rw[e]at h;cases h|some j=>rw[e]at h;let#[C,B,k,m]:=F2 e;show#[j,C,h,B,k,m]
def F3(b:Expr):Prop:=∀o i,vy b Zm o i=operate [o,i] (pE o i)
def wu(X:Cx)(r:R2):Prop:=∀(value slice:Expr)(V:bf)(s:Zy)(U:St)(H:Hp)(x y:bC)(v u:Zu)(Q:VK),Inv X V U H s->RelV x v->RelV y u->r x y H Q ->vy slice Zm v u=operate [v,u] (pE v u)->ZB (Z4 X.prog X.w) X.A (zw value slice v u) (EP X V U Q) X.xe s
section
variable{X:Cx}{a b:Expr}{ta tb:TE}{pos:Pos}
def Ag(K:W.Frag):R2:=λx y H Q=>∃p xs i v,x=.ref p/\y=.int i/\b8 K H p xs/\bq xs i=M v/\Q v H
def Ah(K:W.Frag):R2:=λx y H Q=>∃p xs i v,x=.ref p/\y=.int i/\eJ K H p xs/\bq xs i=M v/\Q v H
def Ai:R2:=λx y H Q=>∃z i c,x=.str z/\y=.int i/\z.length<=sizeLine/\bq z.cps.toList i=M c/\Q (.str ⟨#[c]⟩) H
def F4:wu X (Ag X.K):=by
 intro C B V s U H x y v u Q I P O h F;let#[p,xs,i,z,rfl,rfl,R,W,q]:=h;cases P;let#[t,rfl]:=O;let#[E,r,pl,hz]:=I.list R;let#[j,m,J,h3,Y,h5]:=wt W;let#[w,ew,D]:=r.get J;have S:=r.length;have hn:=Xq;have fin:EP X V U Q w s:=#[z,H,I,D,q];by_cases k:0<=i
 .have hj:i.toNat=j:=by rw[vw k h5]at m;show gJ m
  show item_listR pl.isList k 05 (by simp_all) fin F
 .have hj:(i+(E.toArray.size:Int)).toNat=j:=by rw[yX (gp.mp k) Y]at m;rw[fN,<-S];show gJ m
  show zt pl.isList.typeIs slot_list_getitem.lookup
   (wpAny_getItem_list_neg pl.isList (gp.mp k) (by simp_all) 05 (by simp_all) #[rfl,fin]) F
def O6:wu X (Ah X.K):=by intro m k V s U H x y v u Q I E D h F;let#[p,xs,i,z,rfl,rfl,J,O,q]:=h;cases E;let#[t,rfl]:=D;let#[P,r,pl,Y]:=I.tuple J;let#[j,W,C,S,h4,h5]:=wt O;let#[w,R,B]:=r.get C;have hl:=r.length;have hn:=Xq;have fin:EP X V U Q w s:=#[z,H,I,B,q];show zt (x:=w) pl.typeIs slot_tuple_getitem.lookup (getItem_tuple (j:=j) pl 05 05 (by simp_all) (by simpa using R) #[rfl,fin]) F
def O7:wu X Ai:=by
 intro m k V s U H x y v u Q I E C h F;let#[z,i,c,rfl,rfl,hz,P,q]:=h;let#[t,rfl]:=E;let#[Y,rfl]:=C;let#[j,B,h2,W,R,S]:=wt P;have O:z.cps.toList.length=z.length:=by simp[tZ]
 rw[O]at B R S;have hn:=Xq;show tail_any (typeIs_str s z t) slot_str_getitem.lookup (getItem_str (by have J:decide (i< -(2^63:Int))=Zm:=decide_eq_false 05;have D:decide (i ≥ 2^63)=Zm:=decide_eq_false 05;rw[J,D,Bool.or_false]) (by simp_all) #[.str ⟨#[c]⟩,H,I.tok _,#[_,rfl],q]) F
def O8(its:Tu)(n j)(u):dt (·.setIfInBounds j u) {cls:=.type "list",data:=.seq its.toArray n}={cls:=.type "list",data:=.seq (its.set j u).toArray n}:=by simp[dt]
def Inv.lst(I:Inv X V U H s)(h:H p=M (.lst xs)):∃(its:Tu) (n:Nat),Vals xs its/\s.heap.get? p=M {cls:=.type "list",data:=.seq its.toArray n}/\xs.length<=sizeLine:=by let#[z,its,n,r,e]:=I.aA p _ h;show#[its,n,r,e,z]
def Inv.qK{its j:Tu}(I:Inv X V U H s)(h:H p=M (.lst xs)) (C:s.heap.get? p=M {cls:=.type "list",data:=.seq its.toArray n})(k:f {cls:=.type "list",data:=.seq its.toArray n}={cls:=.type "list",data:=.seq j.toArray n'})(r:Vals ys j)(B:ys.length<=sizeLine)(t):Inv X V U (upd H p<|.lst ys) {s with heap:=s.heap.update p f,toks:=t}:=by
 have e:(s.heap.update p f).get? p=M {cls:=.type "list",data:=.seq j.toArray n'}:=by rw[k6 f C (by rw[k]<;>rfl),k]
 calc I.write (by rw[h];trivial) (.inl rfl) (λb u m q=>(Z9 _ _<|ZV m).trans q) #[_,e] ?_;show#[B,j,n',r,e]
def O9:bC->bC->bC->Hp->(Hp->Prop)->Prop:=λo i v H Q=>∃p xs k j,o=.ref p/\i=.int k/\H p=M (.lst xs)/\ki xs.length k=M j/\Q (upd H p<|.lst<|xs.set j v)
def Pa:zY X O9:=by
 intro V s U H o i v ov iv u Q I S P O h;let#[p,xs,k,j,rfl,rfl,hp,hj,q]:=h;cases S;let#[t,rfl]:=P;let#[m,n,r,E,hz]:=I.lst hp;let#[C,h2,J,Y]:=F2 hj;have R:=r.length;have hn:=Xq;have F:Inv X V U (upd H p<|.lst<|xs.set j v) {s with heap:=s.heap.update p (dt (·.setIfInBounds j u))}:=
  I.qK hp E (O8 m n j u) (r.set O j) (by simp_all) s.toks
 by_cases B:0<=k
 .have D:k.toNat=j:=by rw[vw B Y]at C;show gJ C
  show W.ki_setAt E B 05 (by simp_all)<|by rw[D];show#[_,F,q]
 .have D:(k+(m.toArray.size:Int)).toNat=j:=by rw[yX (gp.mp B) J]at C;rw[fN,<-R];show gJ C
  show W.ki_setBack E (gp.mp B) (by simp_all) 05<|by rw[D];show#[_,F,q]
def Pb(lo D)(n):(qc lo D Z n).1=((HT.fZ n 0 lo:Nat):Int)/\(qc lo D Z n).2.1=((HT.fZ n n D:Nat):Int)/\(qc lo D Z n).2.2=1:=by
 refine#[?_,?_,rfl]
 .cases lo with|none=>simp[qc,HT.fZ]|some i=>simp![qc,HT.fZ,Option.getD_none];show(if_pos 01).trans<|FE n i
 .cases D with|none=>simp[qc,HT.fZ]|some i=>simp![qc,HT.fZ,Option.getD_none];show(if_pos 01).trans<|FE n i
def Pc(its:Tu)(lo D):slicePick its.toArray lo D Z=((its.drop<|HT.fZ its.length 0 lo).take<|HT.fZ its.length its.length D-HT.fZ its.length 0 lo).toArray:=by let#[j,m,k]:=Pb lo D its.toArray.size;unfold slicePick;rw[j,m,k];simp![sliceRange_one,pick_run]<;>rfl
def Aj(K:W.Frag):bC->Wy->Wy->Hp->VK->Prop:=λx lo D H Q=>∃a xs,x=.ref a/\b8 K H a xs/\∀p,H p=Z->Q (.ref p) (upd H p<|.lst<|lW xs lo D)
def F5:F0 X (Aj X.K):=by
 intro V s U H x v R P k D O Q I C E pl B h;let#[a,xs,rfl,hx,q]:=h;cases C;let#[J,r,m,F]:=I.list hx;have j:=r.length;calc#["list",_,slot_list_getitem.lookup,m.isList.typeIs,?_];refine wpAny_getItem_list_slice m.isList E pl B .none 03 ?_<|by simp_all
 rw[Pc,<-j];calc#[.ref s.heap.objs.size,_,I.laid (λb ob q=>Zj _ q) (Zk _) ?_,rfl,q _<|I.aA.fresh<|Zk _];show#[Zb (O3 xs k D) F,_,0,(r.drop<|HT.fZ xs.length 0 k).take<|HT.fZ xs.length xs.length D-HT.fZ xs.length 0 k,Zx _ rfl]
def Ak:Xe X (.type "list") (λxs H Q=>∃p ys,xs=[.ref p]/\(b8 X.K H p ys\/eJ X.K H p ys)/\∀l,H l=Z->Q (.ref l) (upd H l<|.lst ys)):=by
 intro V s U H xs R Q I r h;let#[p,ys,rfl,E,q]:=h;let#[u,rfl,P]:=Q3 r;cases P;have fin:∀(j:Tu),Vals ys j->ys.length<=sizeLine->∀(m:bp)(D:Nat),(∀b O,s.heap.get? b=M O->m.get? b=M O) ->m.get? s.heap.objs.size=M {cls:=.type "list",dict:=Z,data:=.seq j.toArray D,slots:=#[]}->EP X V U Q (.ref s.heap.objs.size) {s with heap:=m}:=λj B C m D kp e=>
  #[.ref s.heap.objs.size,_,I.laid kp (Zk _) (show JR X.prog X.w _ m _ (.lst ys)from#[C,j,D,B,e]),rfl,q _<|I.aA.fresh<|Zk _]
 rcases E with E|E
 .let#[j,B,pl,C]:=I.list E;have k:=B.length;let#[o,J,F,n,hd]:=pl.isList;show call_list_seq p (.inl rfl) J F hd (λm D kp e=>fin j B C m D kp e)<|by simp<;>show Zb (Zg k.symm) C
 .let#[j,B,pl,C]:=I.tuple E;have k:=B.length;let#[o,J,F,n,hd]:=pl;show call_list_seq p (.inr rfl) J F hd (λm D kp e=>fin j B C m D kp e)<|by simp<;>show Zb (Zg k.symm) C
def F6:Xe X (.type "tuple") (λxs H Q=>∃p ys,xs=[.ref p]/\((b8 X.K H p ys/\∀l,H l=Z->Q (.ref l) (upd H l<|.tup ys))\/(eJ X.K H p ys/\Q (.ref p) H))):=by
 intro V s U H xs J Q I r h;let#[p,ys,rfl,h]:=h;let#[u,rfl,E]:=Q3 r;cases E;rcases h with⟨B,q⟩|⟨B,q⟩
 .let#[j,m,pl,C]:=I.list B;have k:=m.length;refine call_tuple_list pl.isList (λD kp=>?_)<|by simp<;>show Zb (Zg k.symm) C
  have I1:=I.kept (t':=s.toks) kp;have F:Inv X V U (upd H D.objs.size<|.tup ys) {s with heap:=D.push {cls:=.type "tuple",data:=.seq j.toArray} }:=
   I1.laid (λb o e=>Zj _ e) (Zk _) (#[C,j,m,IsTup.new _ _])
  show#[.ref D.objs.size,_,F,rfl,q _<|I1.aA.fresh<|Zk _]
 .let#[j,m,pl,C]:=I.tuple B;show call_tuple_same pl #[.ref p,H,I,rfl,q]
def F9(K:W.Frag)(T:String)(x:bC)(H:Hp):Prop:=match x with
 |.str _=>T="str"
 |.int _=>T="int"
 |.ref p=>(T="list"/\∃xs,b8 K H p xs)\/(T="tuple"/\∃o,K.lookup p=M o/\o.cls=.type "tuple"/\o.dict=Z) \/
   (T="dict"/\((∃kvs,H p=M (.dK kvs))\/∃kvs,H p=M (.dT kvs)))\/(T="set"/\∃S n,H p=M (.set S n))
 |_=>False
def Ga(I:Inv X V U H s)(r:RelV x v)(ty:F9 X.K T x H):s.TypeIs v T/\∀a,v=.ref a->∃ob,s.heap.get? a=M ob/\ob.dict=Z:=by
 cases x with
 |str z=>let#[t,rfl]:=r;cases (ty);show#[typeIs_str s z t,λ_ e=>nomatch e]
 |int i=>let#[t,rfl]:=r;cases (ty);show#[typeIs_int s i t,λ_ e=>nomatch e]
 |ref p=>
  cases r;rcases ty with⟨rfl,xs,B⟩|⟨rfl,o,j,hc,hd⟩|⟨rfl,j⟩|⟨rfl,S,n,j⟩
  .let#[C,_,pl,_]:=I.list B;calc#[pl.isList.typeIs,λa e=>?_];cases e;let#[o,n,e,c,hd,_]:=pl;show#[o,e,hd]
  .calc#[#[o,I.dQ p o j,hc],λa e=>?_];cases e;show#[o,I.dQ _ o j,hd]
  .have z:∃o,s.heap.get? p=M o/\o.ExactDict:=by
    rcases j with⟨m,j⟩|⟨m,j⟩
    .let#[_,_,_,_,o,_,_,e,ex,_]:=I.aA p _ j;show#[o,e,ex]
    .let#[_,_,_,_,o,_,_,e,ex,_]:=I.aA p _ j;show#[o,e,ex]
   let#[o,e,ex]:=z;calc#[#[o,e,ex.1],λa k=>?_];cases k;show#[o,e,ex.2.1]
  .let#[o,_,_,_,e,ex,_]:=I.aA p _ j;calc#[#[o,e,ex.1],λa k=>?_];cases k;show#[o,e,ex.2.1]
 |_=>show kc ty
variable{o e:Expr}{es:Td}{to:TE}{t:TA}{name:Str}{apos cpos:Pos}{T id:String}{r:bC->Uc->Hp->VK->Prop}
end
def wx(X:Cx)(id:String)(r:bC->Uc->Hp->VK->Prop):Prop:=∀(V:bf)(s:Zy)(U:St)(H:Hp)(x:bC)(xs:Uc)(v:Zu)(us:Tu)(Q:VK),Inv X V U H s->RelV x v->Vals xs us->r x xs H Q ->ZB (Z4 X.prog X.w) X.A (call (.builtin id)<|v::us) (EP X V U Q) X.xe s
def Vals.one{x:bC}{us:Tu}(h:Vals [x] us):∃u,us=[u]/\RelV x u:=by cases h with|cons r e=>cases e;show#[_,rfl,r]
theorem Vals.zero:∀{us:Tu},Vals [] us->us=[]|_,.nil=>rfl
def Vals.dropLast(h:Vals xs us):Vals xs.dropLast us.dropLast:=by
 induction h with|nil=>show .nil|cons r t j=>cases t with|nil=>show .nil|cons q k=>show .cons r j
theorem Vals.eraseIdx:∀{xs:Uc}{us:Tu}(i:Nat),Vals xs us->Vals (xs.eraseIdx i) (us.eraseIdx i)|_,_,_,.nil=>.nil|_,_,0,.cons _ t=>t|_,_,i+1,.cons r t=>.cons r<|Vals.eraseIdx i t
def Vals.reverse(h:Vals xs us):Vals xs.reverse us.reverse:=by induction h with|nil=>show .nil|cons r t j=>rw[nV,nV];show Vals.append j<|.cons r .nil
theorem Vals.rep(h:Vals xs us):∀k:Nat,Vals (fX k xs).flatten (fX k us).flatten|0=>.nil|k+1=>by show Vals.append h<|Vals.rep h k
theorem Gb:∀(l:List α)(i:Nat),(l.eraseIdx i).length<=l.length|[],_=>Zk _|_::_,0=>gi _|_::r,i+1=>p8<|Gb r i
theorem Ge(its):∀(k:Nat)(acc:Tu),List.foldl (λx1 x2=>x1++x2) acc.toArray (fX k its.toArray)=(acc++(fX k its).flatten).toArray
 |0,acc=>03
 |k+1,acc=>by
  have e:acc.toArray++its.toArray=(acc++its).toArray:=03;have j:(acc++its)++(fX k its).flatten=acc++(fX (k+1) its).flatten:=by rw[y8,List.flatten_cons,iz]
  rw[<-j,<-Ge its k (acc++its),<-e,y8,vN]
section
variable{X:Cx}{V:bf}{U:St}{H:Hp}{s:Zy}{l b:ZD}{xs ys zs:Uc}
def Inv.oq{its j:Tu}(I:Inv X V U H s)(D:H l=M (.lst xs)) (e:s.heap.get? l=M {cls:=.type "list",data:=.seq its.toArray n})(m:f its.toArray=j.toArray)(hv:Vals ys j)(B:ys.length<=sizeLine):Inv X V U (upd H l<|.lst ys) {s with heap:=s.heap.update l<|dt f,toks:=t'}:=by have q:=PySem.IsL.update e f;rw[m]at q;calc I.write (by rw[D];show trivial) (.inl rfl) (λE u k C=>(Z9 s.heap (dt f)<|ZV k).trans C) #[_,q] ?_;show#[B,j,_,hv,q]
theorem Inv.uq(I:Inv X V U H s)(hv:Vals ys its)(j:ys.length<=sizeLine):Inv X V U (upd H s.heap.objs.size<|.lst ys) {s with heap:=s.heap.push {cls:=.type "list",data:=.seq its.toArray},toks:=t'}:=I.laid (λ_ _ q=>Zj _ q) (Zk _) #[j,its,0,hv,Zx _ rfl]
theorem Inv.fresh(I:Inv X V U H s):H s.heap.objs.size=Z:=I.aA.fresh<|Zk _
def Inv.gQ(I:Inv X V U H s)(j:H l=M (.lst xs)):xs.length<=sizeLine/\∃(its:Tu) (n:Nat),Vals xs its/\xs.length=its.length/\s.heap.get? l=M {cls:=.type "list",data:=.seq its.toArray n}:=by let#[z,its,n,r,e]:=I.aA l _ j;show#[z,its,n,r,r.length,e]
def Gf(h:n<=sizeLine):zI n=Zm:=by show decide_eq_false<|yO 06
end
section
variable{X:Cx}
def Pe:bC->Uc->Hp->VK->Prop:=λx O H Q=>∃l xs y,x=.ref l/\O=[y]/\H l=M (.lst xs)/\xs.length<sizeLine/\Q .aw (upd H l<|.lst<|xs++[y])
def Gg:wx X "list.append" Pe:=by intro V s U H x O v E Q I B m h;let#[l,xs,y,rfl,rfl,k,D,q]:=h;cases B;let#[u,rfl,C]:=m.one;let#[z,j,n,r,J,e]:=I.gQ k;calc rX F.slot_list_append #[_,e,rfl] F.entry_list_append (F.args_list_append_2 _ _) (PySem.list_append l j.toArray n u<|by simp_all) #[e,?_];calc#[.aw,_,I.oq k e 03 (r.append<|.cons C .nil) ?_,rfl,q];rw[ZM,pH];show D
def Pf:bC->Uc->Hp->VK->Prop:=λx O H Q=>∃l b xs zs,x=.ref l/\O=[.ref b]/\H l=M (.lst xs)/\H b=M (.lst zs)/\xs.length+zs.length<=sizeLine/\Q .aw (upd H l<|.lst<|xs++zs)
def Ph:wx X "list.extend" Pf:=by
 intro V s U H x O v us Q I S W h;let#[l,b,xs,zs,rfl,rfl,C,D,J,q]:=h;cases S;let#[u,rfl,E]:=W.one;cases E;let#[z,k,n,r,hl,e]:=I.gQ C;let#[z2,j,n2,P,Y,R]:=I.gQ D;have B:k.toArray.size+j.toArray.size<=sizeLine:=by rw[fN,fN];lia
 have m:¬(!k.toArray.isEmpty&&zI (k.toArray.size+j.toArray.size))=Zl:=by rw[Gf B,Bool.and_false];show Zz
 calc rX F.slot_list_extend #[_,e,rfl] F.entry_list_extend (F.args_list_extend_2 _ _) (AutoSeq1.list_extend_list_list_0 l k.toArray n b j.toArray n2 m (by rw[fN];show Zb (Zd _ _) 06)<|nK 06) #[e,R,?_];calc#[.aw,_,I.oq C e 03 (r.append P) ?_,rfl,q];rw[ZM];show J
def Al:bC->Uc->Hp->VK->Prop:=λx O H Q=>∃l xs y,x=.ref l/\O=[]/\H l=M (.lst xs)/\xs[xs.length-1]?=M y/\Q y (upd H l<|.lst xs.dropLast)
def Pj:wx X "list.pop" Al:=by
 intro V s U H x O v S Q I C D h;let#[l,xs,y,rfl,rfl,B,E,q]:=h;cases C;have k:=D.zero;subst k;let#[z,j,n,r,P,e]:=I.gQ B;let#[u,R,J]:=r.get E;have m:j.toArray[j.toArray.size-1]?=M u:=by change j.toArray[j.length-1]?=M u;rw[<-lO,<-P];show R
 calc rX F.slot_list_pop #[_,e,rfl] F.entry_list_pop (F.args_list_pop_1 _) (MeetsSeq.list_pop_last l j.toArray n u m<|by simp_all) #[e,?_];refine#[y,_,I.oq B e ?_ r.dropLast ?_,J,q]
 .simp
 .rw[List.length_dropLast];show Zb (eX _ _) z
def Am:R2:=λx y H Q=>∃l b xs zs,x=.ref l/\y=.ref b/\H l=M (.lst xs)/\H b=M (.lst zs)/\xs.length+zs.length<=sizeLine/\∀p,H p=Z->Q (.ref p) (upd H p<|.lst<|xs++zs)
def Pl:fQ X (fW .Add) Am:=by
 intro V s U H x y v u Q I E B h;let#[l,b,xs,zs,rfl,rfl,J,m,P,q]:=h;cases E;cases B;let#[z,k,n,r,R,e]:=I.gQ J;let#[O,j,n2,C,F,D]:=I.gQ m;refine PySem.P.add_list e D ?_<|by simp_all
 have ea:k.toArray++j.toArray=(k++j).toArray:=03;rw[ea];show#[.ref _,_,I.uq (r.append C) (by simp_all),rfl,q _ I.fresh]
def An:R2:=λx y H Q=>∃l k xs,x=.ref l/\y=.int k/\H l=M (.lst xs)/\ -(2^63)<=k/\k<2^63/\xs.length*k.toNat<=sizeLine /\ ∀p,H p=Z->Q (.ref p) (upd H p<|.lst (fX k.toNat xs).flatten)
theorem Pm(xs:List α)(k):(fX k xs).flatten.length=k*xs.length:=03
def Po:fQ X (fW .Mult) An:=by
 intro V s U H x y v u Q I rx ry h;let#[l,k,xs,rfl,rfl,hH,S,h2,Y,q]:=h;cases rx;let#[t,rfl]:=ry;let#[z,j,n,r,hl,e]:=I.gQ hH;have E:j.toArray.size*k.toNat<=sizeLine:=by simp_all
 have J:¬j.toArray.size*k.toNat>(2^63-1)/8:=by have:(sizeLine:Nat)<=(2^63-1)/8:=01;lia
 have D:¬(!Builtin.List.listFitsIndex k)=Zl:=by rw[fitsIndex_both S h2];show Zz
 have B:¬zI (j.toArray.size*k.toNat)=Zl:=by rw[Gf E];show Zz
 have C:List.foldl (λP R=>P++R) #[] (fX (if j.toArray.isEmpty=Zl then 0 else k.toNat) j.toArray)=(fX k.toNat j).flatten.toArray:=by
  have O:=λm=>by have:=Ge j m [];rw[mZ]at this;show this
  rw[O];cases j with|nil=>simp|cons a r'=>rw[if_neg 03]
 calc wpAny_binaryOp_repeat_ref 01 #[_,e,rfl] (λW=>typeIs_int W k t) noFill_list_mul F.fills_int_mul F.slot_int_rmul repeat_list F.slot_int_index.lookup (rX F.slot_int_rmul (typeIs_int s k t) F.entry_int_rmul (F.args_int_rmul_2 _ _) (int___rmul___int_list k t l j.toArray n) #[e,rfl,#[_,e,rfl],rX F.slot_list_mul #[_,e,rfl] F.entry_list_mul (F.args_list_mul_2 _ _) (AutoListH.list___mul___list_int_3 l j.toArray n k t D J B) #[e,?_]]);rw[C];show#[.ref _,_,I.uq (r.rep k.toNat) (by rw[Pm,Nat.mul_comm];show Y),rfl,q _ I.fresh]
end
section
variable{κ:Type}[DecidableEq κ]
noncomputable def eQ (kvs:List<|κ×bC)(k:κ):Th:=(kvs.find? λkv=>decide (kv.1=k)).map (·.2)
noncomputable def putK (kvs:List<|κ×bC)(k:κ)(v:bC):List (κ×bC):=if (kvs.any λkv=>decide (kv.1=k))=Zl then kvs.map (λkv=>if kv.1=k then(kv.1,v)else kv)else kvs++[(k,v)]
def Ao{k:κ}(e:p.1=k):eQ (p::r) k=M p.2:=by simp[eQ,e]
def Ap{k:κ}(e:¬p.1=k):eQ (p::r) k=eQ r k:=by simp[eQ,e]
theorem Aq(k):∀kvs:List<|κ×bC,(kvs.any λj=>decide (j.1=k))=(eQ kvs k).isSome
 |[]=>rfl
 |p::r=>by
  rw[sk];by_cases e:p.1=k
  .simp only[Ao e,decide_eq_true e,Bool.true_or,Option.isSome_some]
  .rw[Ap e,decide_eq_false e];show Aq k r
def Pq(kvs)(k:κ)(v):(putK kvs k v).length<=kvs.length+1:=by
 unfold putK;split
 .simp
 .simp
def Ar{k:κ}(v)(h:eQ kvs k=Z):putK kvs k v=kvs++[(k,v)]:=by unfold putK;rw[Aq,h];show if_neg 01
def dJ.kj(r:dJ o u):o.isSome=u.isSome:=by
 cases o with
 |none=>cases u with
  |none=>rfl
  |some _=>show(r).elim
 |some _=>cases u with
  |none=>show(r).elim
  |some _=>rfl
def KV.val(r:KV kvs O)(k:κ):dJ (eQ kvs k) (r9 O k):=by
 induction r with|nil=>show fj|@cons p q ps m h t C=>
  let#[B,D]:=h;by_cases e:p.1=k
  .have j:q.1=k:=B.symm.trans e;have b:r9 (q::m) k=M q.2:=by simp[r9,j]
   rw[Ao e,b];show D
  .have j:¬q.1=k:=λz=>e<|B.trans z
   have b:r9 (q::m) k=r9 m k:=by simp[r9,j]
   rw[Ap e,b];show C
def KV.any(r:KV kvs O)(k:κ):(kvs.any λj=>decide (j.1=k))=O.any λj=>decide (j.1=k):=by induction r with|nil=>rfl|cons h t m=>rw[sk,sk,m,h.1]
def KV.As(r:KV kvs O)(k:κ)(C:RelV y u):KV (kvs.map λj=>if j.1=k then(j.1,y)else j) (O.map λj=>if j.1=k then(j.1,u)else j):=by
 induction r with|nil=>show .nil|@cons p q ps B h t m=>
  calc .cons ?_ m;let#[D,E]:=h;by_cases e:p.1=k
  .lia
  .lia
def KV.put(r:KV kvs O)(k:κ)(j:RelV y u):KV (putK kvs k y) (stored O k u):=by
 unfold putK stored;rw[r.any k];by_cases e:(O.any λm=>decide (m.1=k))=Zl
 .rw[if_pos e,if_pos e];show r.As k j
 .rw[if_neg e,if_neg e];show Paired.snoc r #[rfl,j]
theorem KV.length(r:KV kvs O):kvs.length=O.length:=zL r
end
def wy(r:RelV (kV k) u):(Vm P w).is k u=Zl:=by cases k with|inl i=>let#[t,e]:=(r);subst e;show NY P w i t|inr x=>let#[t,e]:=(r);subst e;show NZ P w x t
section
variable{P:ZW}{w:bo}{H:Hp}{h:bp}{a:ZD}
theorem Pr(ok:dk P w H h)(e:Rd H a u):JR P w H h a u:=e.ok ok
theorem Gh(ok:dk P w H h)(e:Rd H a<|.dK kvs):kvs.length<=sizeLine/\(a==px)=Zm/\∃O,KV kvs O/\h.DictOf (Vm P w) a O:=show JR P w H h a (.dK kvs)from Pr ok e
theorem wz(ok:dk P w H h)(e:H a=M (.dK kvs)):kvs.length<=sizeLine/\(a==px)=Zm/\∃O,KV kvs O/\h.DictOf (Vm P w) a O:=Gh ok<|.inl e
end
section
variable{X:Cx}{V:bf}{U:St}{H:Hp}{s:Zy}{a:ZD}{y v:bC}{u r:Zu}{o:Th}{A:bM}{E:aL}
def Inv.big(I:Inv X V U H s):px<s.heap.objs.size:=by have h:=(I.mod.glob.keeps I.bk).lt;show fV 01 h
theorem Gi(I:Inv X V U H s)(k:qE<|H a)(hs:ka a s.heap h')(m:∃q,h'.get? a=M q)(new:JR X.prog X.w (upd H a ob) h' a ob):Inv X V U (upd H a ob) {s with heap:=h',toks:=t'}:=I.write k (.inl rfl) (λb q j z=>(hs.2 b j).trans z) m new
theorem Gj(z:kvs.length<=sizeLine)(hd:(a==px)=Zm)(rel:KV kvs O)(dd:h'.DictOf (Vm P w) a O):JR P w H' h' a (.dK kvs):=#[z,hd,O,rel,dd]
end
section
variable{X:Cx}{V:bf}{U:St}{H:Hp}{s:Zy}{a:ZD}{kvs:Wr}{k:Key}{u:Zu}{A:bM}{E:aL}
def Pt(I:Inv X V U H s)(e:Rd H a<|.dK kvs)(h:∀t s',Inv X V U H s'->Q (.int kvs.length t) s'):ZB (Z4 X.prog X.w) A (call (.builtin "len") [.ref a]) Q E s:=by let#[z,hd,O,rel,j]:=Gh I.aA e;calc call_len_dict hd j (by rw[<-rel.length];rw[ju]at z;lia) ?_;rw[<-rel.length];show h _ _<|I.tok _
end
theorem Pu(h:bp)(j:px<h.objs.size):JR P w H (h.push {cls:=.type "dict",data:=.dict #[]}) h.objs.size (.dK []):=#[ZF _,beq_eq_false_iff_ne.mpr<|ZV<|Zw j,[],.nil,Heap.DictOf.new h]
end L2
namespace Att
open PySem PySem.W PySem.Calls PyProof.Rows
def Pw:∀(ns:To)(O:Tu),WellAll P h O (ns.map WData.int)->d8 O ns:=by
 intro ns;induction ns with|nil=>intro O w;cases w;show .nil|cons n ns j=>intro O w;cases w with|cons a b=>cases a;show .cons _ _<|j _ b
def Px{l:OpenLaw}(hn:l.most=M n) (j:l.row.toRowW.claim.pre args=Zl)(E:WellAll P h vals args):∃a O ns,vals=[pU a]/\args=[WData.list<|ns.map WData.int]/\h.get? a=M {cls:=.type "list",data:=.seq O.toArray}/\d8 O ns/\ns.length<=n:=by
 have D:=(pre_splitW j).1;have I:l.pre.holds [] {args:=args}=Zl:=(pre_splitW j).2;let#[d,r,rfl,J,R]:=hasAllW_cons D;obtain rfl:=hasAllW_nil R;let#[xs,rfl,F]:=hasW_list J;let#[ns,rfl]:=items_int F;have k:ns.length<=n:=by
  have B:(WTm.not<|.lt (.lit<|.int (n:Int))<|.len<|.arg 0).holds [] {args:=[.list<|ns.map .int]}=Zl:=by have B:=(holds_andW I).1;rw[hn]at B;show B
  have C:=condW_of B<|w_not<|w_lt w_lit<|w_len_list<|w_arg rfl;refine ZH λq=>?_
  first
   | (rw[decide_eq_true q']at C;show absurd C 01)
   | (simp at C;show kQ q C)
 cases E with|cons S H=>cases H;cases S with|list Q m=>show#[_,_,ns,rfl,rfl,Q,Pw ns _ m,k]
theorem Py(l:OpenLaw)(args):l.row.toRowW.claim.post args (.bool Zl) args=Zl:=postW_of (show WShape.has [] (.bool Zl) .bool=Zl by first|rfl|decide|simp) (w_eq_bool (w_res rfl) w_lit) rfl
def iT{l:OpenLaw} (hn:l.most=M n)(C:d.params.defaults=[]) (call:∀(w:bo)(s₀ s₁:Zy)(mg mb:Str->Ta)(fa:ZD)(o:Obj)(pm cd k:Zu)(a:ZD)(O:Tu)(ns:To),Ground q loose [] XP w s₀ mg mb s₁.heap->YP w s₁.heap ->s₁.heap.get? fa=M o->o.data=.func (docDef d.name d.params d.body d.scope pm cd k)->s₁.heap.CodeRec cd d.name->mg d.name=M (.ref fa) ->s₁.heap.get? a=M {cls:=.type "list",data:=.seq O.toArray}->d8 O ns->ns.length<=n->s₁.gens=#[] ->j6 (Z4 l.prog w) qj (.call (.ref fa) #[[.ref a],[]]) (λr s'=>r=.ok (.ret<|.bool Zl)/\OldK s₁.heap s'.heap/\s'.os=s₁.os/\ng s'.gens) s₁):WalkO q loose XP YP l.row.toRowW d [] (λf O=>PySem.call f O):=by
 intro w s₀ s₁ mg mb G YY fa o pm cd k dV kV ho hd hcd hD hmg hg args vals as hpre hlay hrd hwl hlo;obtain rfl:dV=.none:=Dflts.none hD C;obtain rfl:kV=.none:=Dflts.noKw hD;let#[a,O,ns,rfl,rfl,B,j,m]:=Px hn hpre hwl;refine enter_call<|rV (call w s₀ s₁ mg mb fa o pm cd k a O ns G YY ho (fd_plain hd) hcd hmg B j m hg) λr s' E=>?_
 let#[rfl,F,D,H]:=E;show#[.inl #[.bool Zl,.bool Zl,[],rfl,λ_=>rfl,.bool Zl,Py l _,λ_=>#[zK,λ_ hm=>(nomatch hm)]],F,D,H]
end Att
namespace L2
open PySem PySem.Spec PyProof.Rows
theorem Xu:∀{O:Tu}{ns:To},d8 O ns->Vals (ns.map bC.int) O|_,_,.nil=>.nil|_,_,.cons n t h=>.cons #[t,rfl]<|Xu h
noncomputable def JT (s:gk)(j:Nat):gk:=match s with|.ClassDef _ _ _ body _ _ _ _ _ _ _=>body.getD j<|.Pass #[0,0,0,0]|_=>.Pass #[0,0,0,0]
def VF(s:gk):tu:=match s with|.FunctionDef _ a _ _ _ _ _ _ _ _=>a|_=>{posonlyargs:=[],args:=[],vararg:=Z,kwonlyargs:=[],kw_defaults:=[],kwarg:=Z,defaults:=[]}
def Vd(s:gk):Tl:=match s with|.FunctionDef _ _ b _ _ _ _ _ _ _=>b|_=>[]
def Qm(s:gk):eO:=match s with|.FunctionDef _ _ _ _ _ _ sc _ _ _=>sc|_=>{kind:=.function,names:=[],isGenerator:=Zm,isCoroutine:=Zm}
def cP(H H':Hp):Prop:=∀b o,H b=M o->H' b=M o
end L2
set_option maxHeartbeats 4000000
namespace L3
open PySem PySem.Spec PyProof.Rows L2
inductive IV where|aw|bl (b:Bool)|int (i:Int)|str (x:Str)|tup (xs:List IV)|cJ (xs:List IV)|ref (i:Nat)
abbrev _root_.Wn:=List<|Str×IV
abbrev _root_.Wo:=List<|Key×IV
abbrev _root_.Te:=Option IV
abbrev _root_.Tw:=List IV
inductive IX where|lst (xs:Tw)|ins (c:Str) (fs:Wn)|aV (kvs:Wo)|exc (c:Str) (fs:Wn)|tab (q:Str)|wC (c:Str) (fs:Wn)
abbrev IH:=List IX
abbrev aE:=List<|Te
inductive Res(α:Type) where|ok (a:α) (h:IH)|exc (n:Nat) (h:IH)|stuck
noncomputable def Res.bind {α β:Type}:Res α->(α->IH->Res β)->Res β|.ok a h,f=>f a h|.exc n h,_=>.exc n h|.stuck,_=>.stuck
inductive cf where|next (U:aE) (h:IH)|ret (v:IV) (h:IH)|brk (U:aE) (h:IH)|cont (U:aE) (h:IH)|exc (n:Nat) (U:aE) (h:IH)|stuck
def qL(K:W.Frag)(H:Hp)(a:ZD)(xs:Uc):Prop:=(∃o,H a=M (.cI o<|.lst xs)) \/ ∃(o:Obj) (its:Ti) (n:Nat),K.lookup a=M o/\o.cls=.type "list"/\o.dict=Z/\o.data=.seq its n/\its.size<=sizeLine/\Vals xs its.toList
def qL.sq{K:W.Frag}(h:qL K H a xs):b8 K H a xs:=by
 rcases h with⟨o,h⟩|h
 .show .inl<|.inr #[o,h]
 .show .inr h
mutual
def RV(K:W.Frag)(Y:Tv)(H:Hp):IV->bC->Prop|.aw,v=>v=.aw|.bl b,v=>v=.bl b|.int i,v=>v=.int i|.str x,v=>v=.str x|.tup xs,v=>∃a O,v=.ref a/\eJ K H a O/\aC K Y H xs O|.cJ xs,v=>∃a O,v=.ref a/\qL K H a O/\aC K Y H xs O|.ref i,v=>∃a,v=.ref a/\Y[i]?=M a
def aC(K:W.Frag)(Y:Tv)(H:Hp):Tw->Uc->Prop|[],O=>O=[]|x::xs,O=>∃v r,O=v::r/\RV K Y H x v/\aC K Y H xs r
end
structure Ext(H H':Hp):Prop where
 dw:∀b xs,H b=M (.tup xs)->H' b=M (.tup xs)
 cb:∀b o u,H b=M (.cI o u)->H' b=M (.cI o u)
structure bj(Y:Tv)(H:Hp)(Y':Tv)(H':Hp):Prop where
 pre:∃m,Y'=Y++m
 ext:Ext H H'
theorem bj.refl:bj Y H Y H:=#[#[[],03],#[λ_ _ h=>h,λ_ _ _ h=>h]]
def bj.trans(a:bj Y H U1 H1)(b:bj U1 H1 W2 H2):bj Y H W2 H2:=by let#[#[m,e],x]:=a;let#[#[k,j],y]:=b;show#[#[m++k,by rw[j,e,iz]],#[λb xs h=>y.dw b xs<|x.dw b xs h,λb o u h=>y.cb b o u<|x.cb b o u h]]
def bj.at(n:bj Y H Y' H'){i:Nat}(h:Y[i]?=M a):Y'[i]?=M a:=by let#[#[m,e],_]:=n;subst e;rw[ZU (Zs.mp h).1];show h
def Ext.rd(x:Ext H H')(h:Rd H a<|.tup xs):Rd H' a (.tup xs):=by
 rcases h with h|⟨o,h⟩
 .show .inl<|x.dw _ _ h
 .show .inr #[o,x.cb _ _ _ h]
def Ext.ur{K:W.Frag}(x:Ext H H')(h:eJ K H a xs):eJ K H' a xs:=by
 rcases h with h|h
 .show .inl<|x.rd h
 .show .inr h
def Ext.Au{K:W.Frag}(x:Ext H H')(h:qL K H a xs):qL K H' a xs:=by
 rcases h with⟨o,h⟩|h
 .show .inl #[o,x.cb _ _ _ h]
 .show .inr h
mutual
theorem RV.mono{K:W.Frag}{Y Y':Tv}{H H':Hp}(n:bj Y H Y' H'):∀(x:IV)(v:bC),RV K Y H x v->RV K Y' H' x v|.aw,_,h=>h|.bl _,_,h=>h|.int _,_,h=>h|.str _,_,h=>h|.tup xs,_,h=>by let#[a,O,e,q,r]:=h;show#[a,O,e,n.ext.ur q,aC.mono n xs O r]|.cJ xs,_,h=>by let#[a,O,e,q,r]:=h;show#[a,O,e,n.ext.Au q,aC.mono n xs O r]|.ref i,_,h=>by let#[a,e,q]:=h;show#[a,e,n.at q]
theorem aC.mono{K:W.Frag}{Y Y':Tv}{H H':Hp}(n:bj Y H Y' H'):∀(xs:Tw)(O:Uc),aC K Y H xs O->aC K Y' H' xs O|[],_,h=>h|x::xs,_,h=>by let#[v,r,e,q,t]:=h;show#[v,r,e,RV.mono n x v q,aC.mono n xs r t]
end
theorem aC.length{K:W.Frag}:∀{xs:Tw}{O:Uc},aC K Y H xs O->O.length=xs.length|[],_,h=>by have e:=h;subst e;rfl|x::xs,_,h=>by let#[v,r,e,_,t]:=h;subst e;simp[aC.length t]
theorem aC.get{K:W.Frag}:∀{xs:Tw}{O:Uc}{i:Nat}{x:IV},aC K Y H xs O->xs[i]?=M x->∃v,O[i]?=M v/\RV K Y H x v
 |[],_,_,_,_,e=>by simp at e
 |x::xs,_,0,y,h,e=>by let#[v,r,j,q,t]:=h;subst j;simp at e;subst e;show#[v,rfl,q]
 |x::xs,_,i+1,y,h,e=>by
  let#[v,r,j,q,t]:=h;subst j;let#[u,k,m]:=aC.get t<|by simpa using e
  show#[u,by simpa using k,m]
def aC.get'{K:W.Frag}{i:Nat}(h:aC K Y H xs O)(e:O[i]?=M v):∃x,xs[i]?=M x/\RV K Y H x v:=by have m:=h.length;have D:=(Zs.mp e).1;have hx:xs[i]?=M xs[i]:=Zh<|jq 06 06;let#[u,j,k]:=h.get hx;rw[e]at j;cases j;show#[_,hx,k]
theorem aC.append{K:W.Frag}:∀{xs ys:Tw}{O us:Uc},aC K Y H xs O->aC K Y H ys us->aC K Y H (xs++ys) (O++us)|[],_,_,_,h,g=>by have e:=h;subst e;show g|x::xs,_,_,_,h,g=>by let#[v,r,e,q,t]:=h;subst e;show#[v,_,rfl,q,aC.append t g]
theorem aC.take{K:W.Frag}:∀{xs:Tw}{O:Uc}(n:Nat),aC K Y H xs O->aC K Y H (xs.take n) (O.take n)|_,_,0,_=>by simp;show rfl|[],_,n+1,h=>by have e:=h;subst e;show rfl|x::xs,_,n+1,h=>by let#[v,r,e,q,t]:=h;subst e;show#[v,r.take n,rfl,q,aC.take n t]
theorem aC.drop{K:W.Frag}:∀{xs:Tw}{O:Uc}(n:Nat),aC K Y H xs O->aC K Y H (xs.drop n) (O.drop n)|_,_,0,h=>h|[],_,n+1,h=>by have e:=h;subst e;show rfl|x::xs,_,n+1,h=>by let#[v,r,e,q,t]:=h;subst e;show aC.drop n t
theorem aC.set{K:W.Frag}(q:RV K Y H x v):∀{xs:Tw}{O:Uc}(i:Nat),aC K Y H xs O->aC K Y H (xs.set i x) (O.set i v)|[],_,_,h=>by have e:=h;subst e;show rfl|y::xs,_,0,h=>by let#[u,r,e,_,t]:=h;subst e;show#[v,r,rfl,q,t]|y::xs,_,i+1,h=>by let#[u,r,e,p,t]:=h;subst e;show#[u,r.set i v,rfl,p,aC.set q i t]
theorem aC.one{K:W.Frag}(q:RV K Y H x v):aC K Y H [x] [v]:=#[v,[],rfl,q,rfl]
theorem aC.rev{K:W.Frag}:∀{xs:Tw}{O:Uc},aC K Y H xs O->aC K Y H xs.reverse O.reverse|[],_,h=>by have e:=h;subst e;show rfl|x::xs,_,h=>by let#[v,r,e,q,t]:=h;subst e;rw[nV,nV];show aC.append (aC.rev t)<|aC.one q
theorem aC.ints{K:W.Frag}:∀(ns:To),aC K Y H (ns.map IV.int) (ns.map bC.int)|[]=>rfl|_::ns=>#[_,_,rfl,rfl,aC.ints ns]
def b9{κ:Type}(K:W.Frag)(Y:Tv)(H:Hp):List (κ×IV)->List (κ×bC)->Prop|[],O=>O=[]|x::xs,O=>∃v r,O=(x.1,v)::r/\RV K Y H x.2 v/\b9 K Y H xs r
theorem b9.mono{K:W.Frag}(n:bj Y H Y' H'):∀(xs:List<|κ×IV)(O:List<|κ×bC),b9 K Y H xs O->b9 K Y' H' xs O|[],_,h=>h|x::xs,_,h=>by let#[v,r,e,q,t]:=h;show#[v,r,e,RV.mono n _ v q,b9.mono n xs r t]
theorem b9.length{K:W.Frag}:∀{xs:List (κ×IV)}{O:List (κ×bC)},b9 K Y H xs O->O.length=xs.length|[],_,h=>by have e:=h;subst e;rfl|x::xs,_,h=>by let#[v,r,e,_,t]:=h;subst e;simp[b9.length t]
theorem b9.lookup[BEq κ]{K:W.Frag}{f:κ}:∀{xs:List (κ×IV)}{O:List (κ×bC)},b9 K Y H xs O ->(∀x,xs.lookup f=M x->∃v,O.lookup f=M v/\RV K Y H x v)/\(xs.lookup f=Z->O.lookup f=Z)
 |[],_,h=>by have e:=h;subst e;show#[λx e=>by simp at e,λ_=>rfl]
 |(k,x)::xs,_,h=>by
  let#[v,r,e,q,t]:=h;subst e;have j:=b9.lookup (f:=f) t;simp![jx];cases m:f==k with
  |true=>show#[λy e=>by cases e;show#[v,rfl,q],λe=>by cases e]
  |false=>show j
def QP(H:Hp)(q:Str)(cv:Zu):Prop:=∃c oc O t,cv=.ref c/\H c=M (.cI oc<|.own 0)/\oc.data=.fields O/\O[1]?=M (.str (q++".<locals>."++"<lambda>") t)
def lX(K:W.Frag)(H:Hp)(q:Str)(a:ZD):Prop:=(∀cdv,W.codeIn K cdv q=Zl->∃c,cdv=.ref c/\W.codeHdIn K c a=Zl) /\ ∃ps,H a=M (.iP ps)/\TriplesOk ps.toList/\∀pos cv,rZ pos ps.toList=M cv->QP H q cv
def lX.mono{K:W.Frag}(I:∀b o u,H b=M (.cI o u)->H' b=M (.cI o u))(k:∀u,H a=M u->H' a=M u)(h:lX K H q a):lX K H' q a:=by let#[C,ps,e,m,B]:=h;calc#[C,ps,k _ e,m,λj F q=>?_];let#[c,D,O,t,E,J,r]:=B j F q;show#[c,D,O,t,E,I _ _ _ J,r]
def dI(a C:ZD)(tv:Zu)(d:Tc):HO:=.ext λh=>∃oe O,h.get? a=M oe/\oe.cls=.ref C/\oe.data=.fields O/\O[1]?=M tv/\O[2]?=M .none/\oe.dict=d
def XV(Y:Tv):IV->Zu->Prop|.int i,u=>∃t,u=.int i t|.ref j,u=>∃b,u=.ref b/\Y[j]?=M b|_,_=>False
def iU(Y:Tv)(H:Hp)(d:Tc)(fs:Wn):Prop:=(fs=[]/\d=Z)\/∃f v dx od u,fs=[(f,v)]/\d=M dx/\H dx=M (.cI od<|.own 0)/\W.lookIn f od=M (M u)/\XV Y v u
def iU.mono(j:∀b o u,H b=M (.cI o u)->H' b=M (.cI o u))(h:iU Y H d fs):iU Y H' d fs:=by
 rcases h with h|⟨f,i,dx,od,t,e,q,r,z⟩
 .show .inl h
 .show .inr #[f,i,dx,od,t,e,q,j _ _ _ r,z]
def iU.Gk(n:bj Y H Y' H')(h:iU Y H d fs):iU Y' H' d fs:=by
 rcases h with h|⟨f,v,dx,od,t,e,q,r,z,x⟩
 .show .inl h
 .calc .inr #[f,v,dx,od,t,e,q,n.ext.cb _ _ _ r,z,?_];cases v with|ref j=>let#[b,e,q]:=x;let#[#[m,rfl],_]:=n;show#[b,e,by rw[ZU (Zs.mp q).1];show q]|_=>show x
def iV(H:Hp)(tv:Zu):Prop:=tv=.none\/∃T oT ts,tv=.ref T/\H T=M (.cI oT<|.own 0)/\oT.data=.fields ts/\ts[3]?=M .none
def iV.mono(j:∀b o u,H b=M (.cI o u)->H' b=M (.cI o u))(h:iV H tv):iV H' tv:=by
 rcases h with h|⟨T,oT,ts,e,q,r⟩
 .show .inl h
 .show .inr #[T,oT,ts,e,j _ _ _ q,r]
def RO(J:aN)(K:W.Frag)(Y:Tv)(H:Hp)(a:ZD):IX->Prop|.lst xs=>∃O,H a=M (.lst O)/\aC K Y H xs O|.ins c fs=>∃C dx O,J c=M C/\H a=M (.ins C dx O)/\b9 K Y H fs O|.aV kvs=>∃O,H a=M (.dK O)/\b9 K Y H kvs O|.exc c fs=>∃C tv d,iU Y H d fs/\W.nsIn K ZJ c=M (M<|.ref C)/\H a=M (dI a C tv d)/\iV H tv|.tab q=>lX K H q a|.wC c fs=>∃C oe u O,iU Y H oe.dict fs/\W.nsIn K ZJ c=M (M<|.ref C)/\H a=M (.cI oe u)/\oe.cls=.ref C/\oe.data=.fields O/\O[2]?=M .none
def RO.some{J:aN}{K:W.Frag}{Y:Tv}{H:Hp}{a:ZD}{o:IX}(h:RO J K Y H a o):∃u,H a=M u:=by cases o with|lst xs=>let#[O,e,_]:=h;show#[_,e]|ins c fs=>let#[_,_,O,_,e,_]:=h;show#[_,e]|aV j=>let#[O,e,_]:=h;show#[_,e]|exc c fs=>let#[C,k,d,_,_,e,_]:=h;show#[_,e]|tab q=>let#[_,ps,e,_]:=h;show#[_,e]|wC c fs=>let#[_,_,_,_,_,_,e,_]:=h;show#[_,e]
def RO.mono{K:W.Frag}(n:bj Y H Y' H')(k:∀u,H a=M u->H' a=M u)(h:RO J K Y H a o):RO J K Y' H' a o:=by cases o with|lst xs=>let#[O,e,r]:=h;show#[O,k _ e,aC.mono n _ _ r]|ins c fs=>let#[C,B,O,j,e,r]:=h;show#[C,B,O,j,k _ e,b9.mono n _ _ r]|aV E=>let#[O,e,r]:=h;show#[O,k _ e,b9.mono n _ _ r]|exc c fs=>let#[C,D,d,m,j,e,r]:=h;show#[C,D,d,m.Gk n,j,k _ e,r.mono n.ext.cb]|tab q=>show lX.mono n.ext.cb k h|wC c fs=>let#[C,F,u,O,m,j,e,r]:=h;show#[C,F,u,O,m.Gk n,j,k _ e,r]
structure Rel(J:aN)(K:W.Frag)(Y:Tv)(h:IH)(H:Hp):Prop where
 len:Y.length=h.length
 nd:Y.Nodup
 at_:∀(i:Nat)(o:IX),h[i]?=M o->∃a,Y[i]?=M a/\RO J K Y H a o
section
variable{J:aN}{K:W.Frag}{Y:Tv}{h:IH}{H:Hp}
def Rel.some(R:Rel J K Y h H){i:Nat}(e:Y[i]?=M a):∃u,H a=M u:=by
 have D:i<h.length:=by rw[<-R.len];show(Zs.mp e).1
 let#[b,j,r]:=R.at_ i _<|Zh D;rw[e]at j;cases j;show r.some
theorem Rel.iW(R:Rel J K Y h H)(e:H l=Z):l∉Y:=λk=>by
 let#[i,D,q]:=gG.mp k;let#[u,j]:=R.some (i:=i) (a:=l)<|by simp_all
 rw[e]at j;cases j
theorem Ext.gU(e:H l=Z):Ext H (upd H l o):=#[λb xs q=>by rw[Jw<|Vn q e];show q,λb o u q=>by rw[Jw<|Vn q e];show q]
def Rel.grow(R:Rel J K Y h H)(e:H l=Z):Rel J K Y h (upd H l o)/\bj Y H Y (upd H l o):=by have n:bj Y H Y (upd H l o):=#[#[[],03],Ext.gU e];calc#[#[R.len,R.nd,λi u q=>?_],n];let#[a,k,r]:=R.at_ i u q;show#[a,k,r.mono n λw j=>by rw[Jw<|Vn j e];show j]
def Rel.alloc(R:Rel J K Y h H)(e:H l=Z)(r:RO J K (Y++[l]) (upd H l o) l io):Rel J K (Y++[l]) (h++[io]) (upd H l o)/\bj Y H (Y++[l]) (upd H l o):=by
 have n:bj Y H (Y++[l]) (upd H l o):=#[#[[l],rfl],Ext.gU e];refine#[#[by simp[R.len],?_,λi u q=>?_],n]
 .rw[List.nodup_append];calc#[R.nd,03,λa ha b m=>?_];have:b=l:=by simpa using m
  subst this;rintro rfl;show R.iW e ha
 .by_cases D:i<h.length
  .rw[ZU D]at q;let#[a,C,B]:=R.at_ i u q;show#[a,n.at C,B.mono n λw k=>by rw[Jw<|Vn k e];show k]
  .have j:i=h.length:=by have:=(Zs.mp q).1;simp at this;show Z7 (Z5 this)<|ZH D
   subst j;simp at q;subst q;calc#[l,?_,r];rw[<-R.len];simp
def Rel.inj(R:Rel J K Y h H){i j:Nat}(e1:Y[i]?=M a)(B:Y[j]?=M a):i=j:=by let#[D,m]:=Zs.mp e1;let#[C,k]:=Zs.mp B;show(vJ R.nd).mp<|m.trans k.symm
def Ext.cG(e:H l=M u)(m:qE<|H l):Ext H (upd H l o):=by
 refine#[λb xs q=>?_,λb ob w q=>?_]
 .by_cases j:b=l
  .subst j;rw[q]at m;show(m).elim
  .rw[Jw j];show q
 .by_cases j:b=l
  .subst j;rw[q]at m;show(m).elim
  .rw[Jw j];show q
def Rel.write(R:Rel J K Y h H)(e:Y[i]?=M a)(ha:H a=M u)(m:qE<|H a)(r:RO J K Y (upd H a o) a io):Rel J K Y (h.set i io) (upd H a o)/\bj Y H Y (upd H a o):=by
 have n:bj Y H Y (upd H a o):=#[#[[],03],Ext.cG ha m];calc#[#[by simp[R.len],R.nd,λj w q=>?_],n];by_cases k:j=i
 .subst k;have C:j<h.length:=by have:=(Zs.mp q).1;simpa using this
  rw[jw C]at q;cases q;show#[a,e,r]
 .rw[iy<|ZV k]at q;let#[b,B,D]:=R.at_ j w q;calc#[b,B,D.mono n λv hv=>?_];have:b≠a:=by rintro rfl;show k<|R.inj B e
  rw[Jw this];show hv
end
structure kr(K:W.Frag)(Y:Tv)(H:Hp)(bF:aE)(U:L2.St):Prop where
 len:bF.length=U.length
 at_:∀(j:Nat)(v:IV),bF[j]?=M (M v)->∃u,U[j]?=M (M u)/\RV K Y H v u
theorem kr.mono{K:W.Frag}(n:bj Y H Y' H')(r:kr K Y H bF U):kr K Y' H' bF U:=#[r.len,λj v e=>let ⟨u,k,q⟩:=r.at_ j v e;#[u,k,RV.mono n _ _ q]]
def kr.set{K:W.Frag}(r:kr K Y H bF U)(i)(q:RV K Y H x v):kr K Y H (bF.set i<|M x) (U.set i<|M v):=by
 calc#[by simp[r.len],λj w e=>?_];by_cases k:j=i
 .subst k;have m:j<bF.length:=by have:=(Zs.mp e).1;simpa using this
  rw[jw m]at e;cases e;show#[v,by rw[jw<|by rw[<-r.len];show m],q]
 .rw[iy<|ZV k]at e;let#[u,C,B]:=r.at_ j w e;show#[u,by rw[iy<|ZV k];show C,B]
structure aG(J:aN)(X:Cx)(V:bf)(Y:Tv)(bF:aE)(h:IH)(U:L2.St)(H:Hp)(s:Zy):Prop where
 inv:Inv X V U H s
 rel:Rel J X.K Y h H
 st:kr X.K Y H bF U
def RU(K:W.Frag)(Y:Tv)(H:Hp)(v:IV)(u:Zu):Prop:=∃x,RelV x u/\RV K Y H v x
theorem RU.mono{K:W.Frag}(n:bj Y H Y' H')(r:RU K Y H v u):RU K Y' H' v u:=let ⟨x,a,b⟩:=r;#[x,a,RV.mono n _ _ b]
def jW(K:W.Frag)(Y:Tv)(H:Hp)(O:Tw)(us:Tu):Prop:=∃xs,Vals xs us/\aC K Y H O xs
theorem jW.mono{K:W.Frag}(n:bj Y H Y' H')(r:jW K Y H v u):jW K Y' H' v u:=let ⟨x,a,b⟩:=r;#[x,a,aC.mono n _ _ b]
abbrev ow(α β:Type):=W.Frag->Tv->Hp->α->β->Prop
def RB:ow Bool Bool:=λ_ _ _ b c=>c=b
section
variable{α β γ δ:Type}
def Kont(J:aN)(X:Cx)(R:ow α β)(V:bf)(Y:Tv)(bF:aE)(U:L2.St)(H:Hp)(r:Res α)(Q:β->Zy->Prop)(E:aL):Prop:=match r with|.ok v h'=>∀u s' H' Y',aG J X V Y' bF h' U H' s'->bj Y H Y' H'->R X.K Y' H' v u->Q u s'|.exc n h'=>∀pl a s' H' Y',aG J X (V++pl) Y' bF h' U H' s'->bj Y H Y' H'->Y'[n]?=M a->E (.ref a) s'|.stuck=>False
variable{J:aN}{X:Cx}{R:ow α β}{R':ow γ δ}{V:bf}{Y Y':Tv}{bF:aE}{U:L2.St}{H H':Hp}
def Kont.mono(k:Kont J X R V Y bF U H r Q E)(n:bj Y H Y' H'):Kont J X R V Y' bF U H' r Q E:=by cases r with|ok v D=>show λu j C B N n2 q=>k u j C B N (n.trans n2) q|exc m D=>show λpl a j C B N n2 q=>k pl a j C B N (n.trans n2) q|stuck=>show k
def PX(J:aN)(X:Cx)(R:ow α β)(t:Sem β)(m:aE->IH->Res α):Prop:=∀(V:bf)(s:Zy)(U:L2.St)(H:Hp)(Y:Tv)(bF:aE)(h:IH)(Q:β->Zy->Prop)(E:aL),aG J X V Y bF h U H s->Kont J X R V Y bF U H (m bF h) Q E ->ZB (Z4 X.prog X.w) X.A t Q E s
def PX.run(p:PX J X R t m)(N:aG J X V Y bF h U H s) (K:Kont J X R' V Y bF U H ((m bF h).bind g) Q E) (step:∀x h1 u s1 H1 j,aG J X V j bF h1 U H1 s1->bj Y H j H1->R X.K j H1 x u->Kont J X R' V j bF U H1 (g x h1) Q E->Q1 u s1):ZB (Z4 X.prog X.w) X.A t Q1 E s:=by calc p V s U H Y bF h Q1 E N ?_;cases e:m bF h with|ok v B=>rw[e]at K;show λu F D I C k r=>step v B u F D I C k r<|Kont.mono K k|exc n B=>rw[e]at K;show K|stuck=>rw[e]at K;show K
end
abbrev ar(J:aN)(X:Cx)(e:Expr)(m:aE->IH->Res IV):Prop:=PX J X RU (bN e X.env) m
abbrev gX(J:aN)(X:Cx)(e:Expr)(m:aE->IH->Res Bool):Prop:=PX J X RB (isTrue e X.env<|bN e X.env) m
def nq(J:aN)(X:Cx)(e:Expr)(m:aE->IH->Res Bool):Prop:=∀whole:Sem Zu,PX J X RB (isTrue e X.env whole) m
def e9(J:aN)(X:Cx)(es:Td)(m:aE->IH->Res (Tw)):Prop:=∀pos:Pos,PX J X jW (spliced<|eF pos<|ZZ es X.env) m
abbrev E1:=aE->IH->Res IV
abbrev T1:=aE->IH->Res Bool
abbrev A1:=aE->IH->Res (Tw)
noncomputable def Ja (i:Nat):E1:=λU h=>match U[i]? with|some (M v)=>.ok v h|_=>.stuck
noncomputable def eC (v:IV):E1:=λ_ h=>.ok v h
def Jc(f:IV->IV->IH->Res IV)(a b:E1):E1:=λU h=>(a U h).bind λx h1=>(b U h1).bind λy h2=>f x y h2
def lg(f:IV->IH->Res IV)(a:E1):E1:=λU h=>(a U h).bind λx h1=>f x h1
def c9(a b:E1)(tr:IV->IH->Res Bool):E1:=λU h=>(a U h).bind λx h1=>(tr x h1).bind λc h2=>if c then b U h2 else .ok x h2
def sO(a b:E1)(tr:IV->IH->Res Bool):E1:=λU h=>(a U h).bind λx h1=>(tr x h1).bind λc h2=>if c then .ok x h2 else b U h2
def oy(t:T1)(a b:E1):E1:=λU h=>(t U h).bind λc h1=>if c then a U h1 else b U h1
def Qs(a b:T1):T1:=λU h=>(a U h).bind λc h1=>if c then b U h1 else .ok Zm h1
def cE(a b:T1):T1:=λU h=>(a U h).bind λc h1=>if c then .ok Zl h1 else b U h1
def J7(a:T1):T1:=λU h=>(a U h).bind λc h1=>.ok (!c) h1
def Ji(tr:IV->IH->Res Bool)(a:E1):T1:=λU h=>(a U h).bind λx h1=>tr x h1
noncomputable def Je:A1:=λ_ h=>.ok [] h
def Jb(a:E1)(r:A1):A1:=λU h=>(a U h).bind λx h1=>(r U h1).bind λxs h2=>.ok (x::xs) h2
def JO(f g:IV->IV->IH->Res IV)(a b c:E1):E1:=λU h=>(a U h).bind λx h1=>(b U h1).bind λy h2=>(f x y h2).bind λk h3=>match k with|.bl Zl=>(c U h3).bind λz h4=>g y z h4|.bl Zm=>.ok (.bl Zm) h3|_=>.stuck
section
variable{J:aN}{X:Cx}{a b c:Expr}{ma mb mc:E1}{pos:Pos}
def dW(J:aN)(X:Cx)(f:Zu->Zu->Sem Zu)(g:IV->IV->IH->Res IV):Prop:=∀(V:bf)(s:Zy)(U:L2.St)(H:Hp)(Y:Tv)(bF:aE)(h:IH)(x y:IV)(v u:Zu)(Q:aL)(E:aL),aG J X V Y bF h U H s->RU X.K Y H x v->RU X.K Y H y u ->Kont J X RU V Y bF U H (g x y h) Q E->ZB (Z4 X.prog X.w) X.A (f v u) Q E s
def wD(J:aN)(X:Cx)(f:Zu->Sem Zu)(g:IV->IH->Res IV):Prop:=∀(V:bf)(s:Zy)(U:L2.St)(H:Hp)(Y:Tv)(bF:aE)(h:IH)(x:IV)(v:Zu)(Q:aL)(E:aL),aG J X V Y bF h U H s->RU X.K Y H x v ->Kont J X RU V Y bF U H (g x h) Q E->ZB (Z4 X.prog X.w) X.A (f v) Q E s
def uu(J:aN)(X:Cx)(g:IV->IH->Res Bool):Prop:=∀(V:bf)(s:Zy)(U:L2.St)(H:Hp)(Y:Tv)(bF:aE)(h:IH)(x:IV)(v:Zu)(Q:Bool->Zy->Prop)(E:aL),aG J X V Y bF h U H s->RU X.K Y H x v ->Kont J X RB V Y bF U H (g x h) Q E->ZB (Z4 X.prog X.w) X.A (truthy v) Q E s
def Qq(J:aN)(X:Cx)(f:Zu)(g:Tw->IH->Res IV):Prop:=∀(V:bf)(s:Zy)(U:L2.St)(H:Hp)(Y:Tv)(bF:aE)(h:IH)(xs:Tw)(us:Tu)(Q:aL)(E:aL),aG J X V Y bF h U H s->jW X.K Y H xs us ->Kont J X RU V Y bF U H (g xs h) Q E->ZB (Z4 X.prog X.w) X.A (call f us) Q E s
theorem Ya(p:PE (X.br E) e t)(I:Inv X V U H s) (k:t U H λz H'=>∀u s',Inv X V U H' s'->RelV z u->Q u s'):ZB (Z4 X.prog X.w) X.A (bN e X.env) Q E s:=d6 (p V s U H _ (I.br E) k) (λu s' ⟨_,_,j,r,q⟩=>q u s' j.bt r) λ_ _ z=>z
theorem Qi(p:fQ (X.br E) f r)(I:Inv X V U H s)(B:RelV x v)(m:RelV y u) (k:r x y H λz H'=>∀u s',Inv X V U H' s'->RelV z u->Q u s'):ZB (Z4 X.prog X.w) X.A (f v u) Q E s:=d6 (p V s U H x y v u _ (I.br E) B m k) (λu s' ⟨_,_,j,r,q⟩=>q u s' j.bt r) λ_ _ z=>z
theorem Pz(p:Ab (X.br E) f r)(I:Inv X V U H s)(m:RelV x v) (k:r x H λz H'=>∀u s',Inv X V U H' s'->RelV z u->Q u s'):ZB (Z4 X.prog X.w) X.A (f v) Q E s:=d6 (p V s U H x v _ (I.br E) m k) (λu s' ⟨_,_,j,r,q⟩=>q u s' j.bt r) λ_ _ z=>z
theorem Xb(p:uj (X.br E) r)(I:Inv X V U H s)(m:RelV x v) (k:r x H λz H'=>∀s',Inv X V U H' s'->Q z s'):ZB (Z4 X.prog X.w) X.A (truthy v) Q E s:=d6 (p V s U H x v _ (I.br E) m k) (λ_ s' ⟨_,j,q⟩=>q s' j.bt) λ_ _ z=>z
theorem QO(p:Xe (X.br E) f r)(I:Inv X V U H s)(m:Vals xs us) (k:r xs H λz H'=>∀u s',Inv X V U H' s'->RelV z u->Q u s'):ZB (Z4 X.prog X.w) X.A (call f us) Q E s:=d6 (p V s U H xs us _ (I.br E) m k) (λu s' ⟨_,_,j,r,q⟩=>q u s' j.bt r) λ_ _ z=>z
def PA(i)(k:X.N[i]?=M x:=by rfl)(hv:qG X.env.scope x:=by assumption)(hd:(x==("__debug__":Str))=Zm:=by decide) (j:(x==("__classdict__":Str))=Zm:=by decide):ar J X (.Name x pos) (Ja i):=by
 intro V s U H Y B h Q E N K;unfold Ja at K;cases e:B[i]? with|none=>rw[e]at K;show(K).elim|some o=>cases o with|none=>rw[e]at K;show(K).elim|some v=>rw[e]at K;let#[u,I,q]:=N.st.at_ i v e;show Ya (Og k hv hd j) N.inv #[u,I,λm F C D=>K m F H Y #[C,N.rel,N.st] .refl #[u,D,q]]
theorem Gm{i j pos}:ar J X (.Constant (.int i) j pos) (eC<|.int i):=λ_ _ _ H Y _ _ _ E N K=>Ya (Oh) N.inv λC B k m=>K C B H Y #[k,N.rel,N.st] .refl #[_,m,rfl]
theorem uw{i j pos}:ar J X (.Constant (.bool i) j pos) (eC<|.bl i):=λ_ _ _ H Y _ _ _ E N K=>Ya (Oi) N.inv λC B k m=>K C B H Y #[k,N.rel,N.st] .refl #[_,m,rfl]
theorem Gn{j pos}:ar J X (.Constant .none j pos) (eC .aw):=λ_ _ _ H Y _ _ _ E N K=>Ya (Oj) N.inv λC B k m=>K C B H Y #[k,N.rel,N.st] .refl #[_,m,rfl]
theorem Gp{i j pos}:ar J X (.Constant (.str i) j pos) (eC<|.str i):=λ_ _ _ H Y _ _ _ E N K=>Ya (Ol) N.inv λC B k m=>K C B H Y #[k,N.rel,N.st] .refl #[_,m,rfl]
theorem PB(k:Gl X x)(hm:X.mg x=M u)(r:RelV v u)(q:∀Y H,RV X.K Y H iv v)(hd:(x==("__debug__":Str))=Zm:=by decide):ar J X (.Name x pos) (eC iv):=λ_ _ _ H Y _ _ _ E N K=>Ya (Om k hm r hd) N.inv λC B j m=>K C B H Y #[j,N.rel,N.st] .refl #[_,m,q _ _]
theorem PC(P:dW J X (fW op) f)(ha:ar J X a ma)(j:ar J X b mb):ar J X (.BinOp a op b pos) (Jc f ma mb):=λV s U H Y O h Q E N K=>wpAny_BinOp<|ha.run N K λx h1 u s1 H1 U1 S n1 F W=>j.run S W λy R w m D C k n2 B I=>P V m U D C O R x y u w Q E k (F.mono n2) B I
theorem Av(D:wD J X (unaryOp op) f)(ha:ar J X a ma):ar J X (.UnaryOp op a pos) (lg f ma):=λV s U H Y k h Q E N K=>UnaryOp_<|ha.run N K λx m u C I B F n1 j O=>D V C U I B k m x u Q E F j O
theorem PD(P:dW J X (eY op) f)(ha:ar J X a ma)(j:ar J X b mb)(hm:rQ op b=Zm:=by assumption):ar J X (.Compare a [op] [b] pos) (Jc f ma mb):=λV s U H Y O h Q E N K=>wpAny_Compare1 (ha.run N K λx h1 u s1 H1 U1 S n1 F W=>j.run S W λy R w m D C k n2 B I=>P V m U D C O R x y u w Q E k (F.mono n2) B I) hm
noncomputable def aM:IV->IH->Res Bool|.bl b,h=>.ok b h|_,_=>.stuck
def Kont.aM{r:Res IV}(K:Kont J X RB V Y bF U H (r.bind aM) Q E):Kont J X RU V Y bF U H r (λv s=>ZB (Z4 X.prog X.w) X.A (truthy v) Q E s) E:=by
 cases r with|exc n h=>show K|stuck=>show K|ok v h=>intro u k j m N n q;let#[x,B,q]:=q;cases v with|bl b=>have e:x=.bl b:=q;subst e;cases B;show qb<|K b k j m N n rfl|_=>show Zf K
def Res.dq(r:Res α)(f)(g:β->IH->Res γ):(r.bind f).bind g=r.bind λx h=>(f x h).bind g:=by cases r<;>rfl
theorem PF(ho:dW J X (eY op) f)(ha:ar J X a ma)(B:ar J X b mb)(hm:rQ op b=Zm:=by assumption):gX J X (.Compare a [op] [b] pos) (Ji aM<|Jc f ma mb):=λV s U H Y j h Q E N K=>by
  have D:Kont J X RB V Y j U H ((ma j h).bind λx m=>(mb j m).bind λy k=>(f x y k).bind aM) Q E:=by unfold Ji Jc at K;simp![Res.dq]at K;show K
  show wpAny_isTrue_Compare1 (ha.run N D λx m u s1 H1 U1 I n1 r1 O=>B.run I O λy k w C W S P n2 R F=>ho V C U W S j k x y u w _ E P (r1.mono n2) R<|Kont.aM F) hm
theorem Gq(k:uu J X tr)(ha:ar J X a ma)(I:∀j,isTrue a X.env j=(do let v<-j;sd a.pos;lH [v] (truthy v)):=by intro _;rfl):gX J X a (Ji tr ma):=λV s U H Y B h Q E N K=>isTrue_plain (ha.run N K λx C u F P D O n1 m R=>k V F U P D B C x u Q E O m R)<|I _
variable{rest:Td}{ta tb:T1}
theorem PG(ha:gX J X a ta):nq J X (.BoolOp .And [a] pos) ta:=λO V s U H Y m h Q E N K=>by
 calc isTrue_and<|ha V s U H Y m h _ E N ?_;cases e:ta m h with
 |ok v I=>rw[e]at K;intro u C B D j k r;have F:=r;subst F;cases u with|true=>show isTrue_and_nil<|K Zl C B D j k rfl|false=>show K Zm C B D j k rfl
 |exc n I=>rw[e]at K;show K
 |stuck=>rw[e]at K;show K
theorem PH(ha:gX J X a ta):nq J X (.BoolOp .Or [a] pos) ta:=λO V s U H Y m h Q E N K=>by
 calc isTrue_or<|ha V s U H Y m h _ E N ?_;cases e:ta m h with
 |ok v I=>rw[e]at K;intro u C B D j k r;have F:=r;subst F;cases u with|false=>show isTrue_or_nil<|K Zm C B D j k rfl|true=>show K Zl C B D j k rfl
 |exc n I=>rw[e]at K;show K
 |stuck=>rw[e]at K;show K
theorem PJ(ha:gX J X a ta)(D:nq J X (.BoolOp .And (b::rest) pos) tb):nq J X (.BoolOp .And (a::b::rest) pos) (Qs ta tb):=λR V s U H Y I h Q E N K=>
 isTrue_and (ha.run N K λc O u k B j m n1 F C=>by have P:=F;subst P;cases u with|true=>show D R V k U B j I O Q E m C|false=>show C Zm k B j m .refl rfl)
theorem PK(ha:gX J X a ta)(D:nq J X (.BoolOp .Or (b::rest) pos) tb):nq J X (.BoolOp .Or (a::b::rest) pos) (cE ta tb):=λR V s U H Y I h Q E N K=>
 isTrue_or (ha.run N K λc O u k B j m n1 F C=>by have P:=F;subst P;cases u with|false=>show D R V k U B j I O Q E m C|true=>show C Zl k B j m .refl rfl)
theorem nq.t(h:nq J X a ta):gX J X a ta:=h _
theorem PL(ha:gX J X a ta):gX J X (.UnaryOp .Not a pos) (J7 ta):=λV s U H Y I h Q E N K=>
 isTrue_not (ha.run N K λc O u B D m C n1 j F=>by have k:=j;subst k;show F (!u) B D m C .refl rfl)
theorem Gr{op}(h:ar J X a ma):ar J X (.BoolOp op [a] pos) ma:=λV s U H Y j k Q E N K=>BoolOp_one<|h V s U H Y j k Q E N K
theorem PM(ht:uu J X tr)(ha:ar J X a ma)(P:ar J X (.BoolOp .And (b::rest) pos) mb):ar J X (.BoolOp .And (a::b::rest) pos) (c9 ma mb tr):=λV s U H Y O h Q E N K=>
 BoolOp_and (ha.run N K λx B u S H1 U1 N1 n1 I j=>by
  calc ht V S U H1 U1 O B x u _ E N1 I ?_;cases e:tr x B with
  |ok c W=>rw[e]at j;intro d k F D C n2 r2;have R:=r2;subst R;have m:=Kont.mono j n2;cases d with|true=>show P V k U F D O W Q E C m|false=>show m u k F D C .refl<|I.mono n2
  |exc n h'=>rw[e]at j;show j
  |stuck=>rw[e]at j;show j)
theorem Aw(ht:uu J X tr)(ha:ar J X a ma)(P:ar J X (.BoolOp .Or (b::rest) pos) mb):ar J X (.BoolOp .Or (a::b::rest) pos) (sO ma mb tr):=λV s U H Y O h Q E N K=>
 BoolOp_or (ha.run N K λx B u S H1 U1 N1 n1 I j=>by
  calc ht V S U H1 U1 O B x u _ E N1 I ?_;cases e:tr x B with
  |ok c W=>rw[e]at j;intro d k F D C n2 r2;have R:=r2;subst R;have m:=Kont.mono j n2;cases d with|false=>show P V k U F D O W Q E C m|true=>show m u k F D C .refl<|I.mono n2
  |exc n h'=>rw[e]at j;show j
  |stuck=>rw[e]at j;show j)
def YB(tr:IV->IH->Res Bool):IV->IH->Res IV:=λx h=>(tr x h).bind λc h1=>.ok (.bl (!c)) h1
theorem PN(k:uu J X tr):wD J X (unaryOp .Not) (YB tr):=λV s U H Y F h x v Q E N r K=>by calc not_of<|k V s U H Y F h x v _ E N r ?_;unfold YB at K;cases e:tr x h with|ok c O=>rw[e]at K;intro d m D C j n2 B;have I:=B;subst I;show K _ m D C j n2 #[.bl (!d),rfl,rfl]|exc n P=>rw[e]at K;show K|stuck=>rw[e]at K;show K
theorem PO{C:T1}(P:gX J X t C)(ha:ar J X a ma)(O:ar J X b mb):ar J X (.IfExp t a b pos) (oy C ma mb):=λV s U H Y j h Q E N K=>
 wpAny_IfExp (P.run N K λc k u B F m D n1 R I=>by have S:=R;subst S;cases u with|true=>show ha V B U F m j k Q E D I|false=>show O V B U F m j k Q E D I)
theorem PQ(ho:dW J X (eY op) f)(m:dW J X (eY op') g)(ha:ar J X a ma)(P:ar J X b mb)(hc:ar J X c mc) (hm:r7 [op,op'] [b,c]=Zm:=by with_unfolding_all rfl):ar J X (.Compare a [op,op'] [b,c] pos) (JO f g ma mb mc):=λV s U H Y O h Q E N K=>
 Compare_chain (ha.run N K λx h1 u s1 H1 U1 N1 n1 r1 K1=>chain_link (P.run N1 K1 λy D w S H2 W2 N2 n2 I j=>by
  calc ho V S U H2 W2 O D x y u w _ E N2 (r1.mono n2) I ?_;cases e:f x y D with|exc n h'=>rw[e]at j;show j|stuck=>rw[e]at j;show j|ok k h3=>
   rw[e]at j;intro d s3 H3 W3 F B r3;let#[z,rz,q]:=r3;cases k with
   |bl k=>have R:=q;subst R;cases rz;calc qb ?_;have C:=Kont.mono j B;cases k with|false=>show ite_ff<|C _ s3 H3 W3 F .refl #[.bl Zm,rfl,rfl]|true=>show ite_tt<|chain_last<|hc.run F C λz h4 w' s4 H4 W4 N4 W r4 K4=>m V s4 U H4 W4 O h4 y z w w' Q E N4 ((I.mono B).mono W) r4 K4
   |_=>show(j).elim)) hm
theorem PR(ho:dW J X (eY op) f)(F:dW J X (eY op') g)(ha:ar J X a ma)(hb:ar J X b mb)(hc:ar J X c mc) (hm:r7 [op,op'] [b,c]=Zm:=by with_unfolding_all rfl):gX J X (.Compare a [op,op'] [b,c] pos) (Ji aM<|JO f g ma mb mc):=λV s U H Y j h Q E N K=>by
 have K':Kont J X RB V Y j U H ((ma j h).bind λx R=>(mb j R).bind λy D=>(f x y D).bind λk C=>(match k with|.bl Zl=>(mc j C).bind λz B=>g y z B|.bl Zm=>.ok (.bl Zm) C|_=>.stuck:Res IV).bind aM) Q E:=by unfold Ji JO at K;simp![Res.dq]at K;show K
 calc isTrue_chain (ha.run N K' λx R u s1 H1 U1 N1 n1 r1 K1=>test_link<|hb.run N1 K1 λy D w s2 H2 W2 N2 n2 r2 m=>?_) hm;calc ho V s2 U H2 W2 j D x y u w _ E N2 (r1.mono n2) r2 ?_;cases e:f x y D with|exc n h'=>rw[e]at m;show m|stuck=>rw[e]at m;show m|ok k C=>
  rw[e]at m;intro d s3 H3 P W O r3;let#[z,rz,q]:=r3;cases k with
  |bl k=>
   have e':=q;subst e';cases rz;calc qb ?_;have S:=Kont.mono (r:=(match IV.bl k with|.bl Zl=>(mc j C).bind λz B=>g y z B|.bl Zm=>.ok (.bl Zm) C|_=>.stuck:Res IV).bind aM) m O;cases k with|false=>show ite_ff<|S _ s3 H3 P W .refl rfl|true=>
    have I:Kont J X RB V P j U H3 ((mc j C).bind λz B=>(g y z B).bind aM) Q E:=by have:=S;rw[Res.dq]at this;show this
    show ite_tt<|test_last<|hc.run W I λz B w' s4 H4 W4 N4 n4 r4 K4=>F V s4 U H4 W4 j B y z w w' _ E N4 ((r2.mono O).mono n4) r4<|Kont.aM K4
  |_=>show(m).elim
variable{es:Td}{mr:A1}
theorem jW.nil{K:W.Frag}:jW K Y H [] []:=#[[],.nil,rfl]
theorem jW.cons{K:W.Frag}{Y:Tv}{H:Hp}{x:IV}{u:Zu}{xs:Tw}{us:Tu}(a:RU K Y H x u)(b:jW K Y H xs us):jW K Y H (x::xs) (u::us):=let ⟨v,r,q⟩:=a;let ⟨O,k,j⟩:=b;#[v::O,.cons r k,v,O,rfl,q,j]
theorem Q5:e9 J X [] Je:=λ_ V s U H Y j h Q E N K=>Calls.spliced_nil<|K [] s H Y N .refl .nil
def Qk(ha:ar J X a ma)(R:e9 J X es mr)(hs:ZZ (a::es) X.env=(Zm,bN a X.env)::ZZ es X.env:=by rfl):e9 J X (a::es) (Jb ma mr):=by intro j V s U H Y bF h Q E N K;rw[hs];show zJ<|ha.run N K λx W u s1 H1 U1 B n1 P C=>(R j).run B C λxs h2 S k O I D n2 F m=>m _ k O I D .refl<|.cons (P.mono n2) F
end
noncomputable def Jr:IV->IV->IH->Res IV
 |.int i,.int j,h=>.ok (.int<|i+j) h
 |.str x,.str y,h=>if x.length+y.length<=sizeLine then .ok (.str<|x++y) h else .stuck
 |.ref i,.ref j,h=>match h[i]?,h[j]? with
  |some (.lst xs),M (.lst ys)=>if xs.length+ys.length<=sizeLine then .ok (.ref h.length) (h++[.lst<|xs++ys])else .stuck
  |_,_=>.stuck
 |.tup xs,.tup ys,h=>if xs≠[]/\ys≠[]/\xs.length+ys.length<=sizeLine then .ok (.tup<|xs++ys) h else .stuck
 |_,_,_=>.stuck
noncomputable def JV:IV->IV->IH->Res IV|.int i,.int j,h=>.ok (.int<|i-j) h|_,_,_=>.stuck
def QY(i j:Int):Prop:=i.natAbs<2^64\/j.natAbs<2^64\/(i.natAbs.log2<1048576/\j.natAbs.log2<1048576)
instance (i j:Int):Decidable (QY i j):=by unfold QY;show inferInstance
noncomputable def XH:IV->IV->IH->Res IV
 |.int i,.int j,h=>if QY i j then .ok (.int<|i*j) h else .stuck
 |.ref i,.int k,h=>match h[i]? with
  |some (.lst xs)=>if -(2^63)<=k/\k<2^63/\xs.length*k.toNat<=sizeLine then .ok (.ref h.length) (h++[.lst (fX k.toNat xs).flatten])else .stuck
  |_=>.stuck
 |_,_,_=>.stuck
noncomputable def JG:IV->IV->IH->Res IV|.int i,.int j,h=>if 0<j/\j.natAbs.log2<9000 then .ok (.int<|i/j) h else .stuck|_,_,_=>.stuck
noncomputable def J9:IV->IV->IH->Res IV|.int i,.int j,h=>if 0<j then .ok (.int<|i%j) h else .stuck|_,_,_=>.stuck
noncomputable def JK:IV->IV->IH->Res IV|.int i,.int j,h=>if 0<=j/\j<=1000000/\i.natAbs<2^64 then .ok (.int<|i^j.toNat) h else .stuck|_,_,_=>.stuck
noncomputable def Vo:IV->IH->Res IV|.int i,h=>.ok (.int (-i)) h|_,_=>.stuck
section
variable{J:aN}{X:Cx}
theorem aJ(N:aG J X V Y bF h U H s)(K:Kont J X RU V Y bF U H (.ok v h) Q E) (q:RV X.K Y H v w):∀u s',Inv X V U H s'->RelV w u->Q u s':=λu s' I r=>K u s' H Y #[I,N.rel,N.st] .refl #[w,r,q]
theorem fy(N:aG J X V Y bF h U H s) (K:Kont J X RU V Y bF U H (.ok (.ref h.length)<|h++[io]) Q E)(l)(e:H l=Z)(r:RO J X.K (Y++[l]) (upd H l o) l io):∀u s',Inv X V U (upd H l o) s'->RelV (.ref l) u->Q u s':=λu s' I j=>by let#[R,n]:=N.rel.alloc e r;calc K u s' _ _ #[I,R,N.st.mono n] n #[.ref l,j,l,rfl,?_];rw[<-N.rel.len];simp
theorem qM(N:aG J X V Y bF h U H s) (K:Kont J X RU V Y bF U H (.ok (.tup xs) h) Q E)(l)(e:H l=Z)(r:aC X.K Y H xs O):∀u s',Inv X V U (upd H l<|.tup O) s'->RelV (.ref l) u->Q u s':=λu s' I j=>by let#[R,n]:=N.rel.grow e;show K u s' _ _ #[I,R,N.st.mono n] n #[.ref l,j,l,O,rfl,eJ.of J4,aC.mono n _ _ r]
theorem aC.new{K:W.Frag}(e:H l=Z)(r:aC K Y H xs O):aC K (Y++[l]) (upd H l o) xs O:=aC.mono #[#[[l],rfl],Ext.gU e] _ _ r
def aG.at(N:aG J X V Y bF h U H s){i:Nat}(e:h[i]?=M o)(ha:Y[i]?=M a):RO J X.K Y H a o:=by let#[b,j,r]:=N.rel.at_ i o e;rw[ha]at j;cases j;show r
def PS:dW J X (fW .Add) Jr:=by
 intro V s U H Y bF h x y v u Q E N C B K;let#[xv,C,qx]:=C;let#[yv,B,I]:=B;cases x with
 |int i=>cases y with|int j=>have m:=qx;have k:=I;subst m k;show Qi (Ox) N.inv C B #[i,j,rfl,rfl,aJ N K rfl]|_=>show(K).elim
 |str i=>
  cases y with
  |str j=>
   have m:=qx;have k:=I;subst m k;dsimp only[Jr]at K;split at K
   .rename_i F;show Qi (ON) N.inv C B #[i,j,rfl,rfl,F,aJ N K rfl]
   .show(K).elim
  |_=>show(K).elim
 |tup xs=>
  cases y with
  |tup ys=>
   let#[a,O,m,sa,S]:=qx;let#[b,P,k,sb,R]:=I;subst m k;dsimp only[Jr]at K;split at K
   .rename_i F;let#[h1,h2,h3]:=F;have n1:O≠[]:=λz=>h1 (by have:=S.length;rw[z]at this;show sf this.symm)
    have n2:P≠[]:=λz=>h2 (by have:=R.length;rw[z]at this;show sf this.symm)
    show Qi (O5) N.inv C B #[a,b,O,P,rfl,rfl,sa,sb,n1,by rw[S.length,R.length];show h3,λz=>absurd z n2,λ_ p hp=>qM N K p hp<|S.append R]
   .show(K).elim
  |_=>show(K).elim
 |ref i=>
  cases y with
  |ref j=>
   let#[a,m,ha]:=qx;let#[b,k,hb]:=I;subst m k;dsimp only[Jr]at K;cases D:h[i]? with|none=>rw[D]at K;show(K).elim|some oi=>
    cases W:h[j]? with|none=>rw[D,W]at K;cases oi<;>show(K).elim|some oj=>
     rw[D,W]at K;cases oi with
     |lst xs=>
      cases oj with
      |lst ys=>
       dsimp only at K;split at K
       .rename_i F;let#[O,m,r1]:=N.at D ha;let#[P,k,r2]:=N.at W hb;show Qi (Pl) N.inv C B #[a,b,O,P,rfl,rfl,m,k,by rw[r1.length,r2.length];show F,λp hp=>fy N K p hp #[_,J4,aC.new hp<|r1.append r2]]
       .show(K).elim
      |_=>show(K).elim
     |_=>show(K).elim
  |_=>show(K).elim
 |_=>cases y<;>show(K).elim
def PT:dW J X (fW .Sub) JV:=by
 intro V s U H Y I h x y v u Q E N m k K;let#[O,m,qx]:=m;let#[F,k,B]:=k;cases x with
 |int i=>cases y with|int j=>have D:=qx;have C:=B;subst D C;show Qi (Oy) N.inv m k #[i,j,rfl,rfl,aJ N K rfl]|_=>show(K).elim
 |_=>cases y<;>show(K).elim
def QY.ok(h:QY i j):IntMulOk i j:=by
 rcases h with h|h|⟨h1,h2⟩
 .show .of_left<|intBits_le_64 00 00
 .show .of_right<|intBits_le_64 00 00
 .refine .of_bits ?_ ?_
  .unfold Builtin.Int.intBits;split
   .show ZF _
   .assumption
  .unfold Builtin.Int.intBits;split
   .show ZF _
   .assumption
theorem PU:fQ X (fW .Mult) (rI QY λi j=>.int<|i*j):=wj λ_ _ _ _ _ _ _ k q=>mul_int q k.ok
def PV:dW J X (fW .Mult) XH:=by
 intro V s U H Y bF h x y v u Q E N F C K;let#[xv,F,qx]:=F;let#[yv,C,P]:=C;cases x with
 |int i=>
  cases y with
  |int j=>
   have B:=qx;have I:=P;subst B I;dsimp only[XH]at K;split at K
   .rename_i m;show Qi (PU) N.inv F C #[i,j,rfl,rfl,m,aJ N K rfl]
   .show(K).elim
  |_=>show(K).elim
 |ref i=>
  cases y with
  |int k=>
   let#[a,B,ha]:=qx;have I:=P;subst B I;dsimp only[XH]at K;cases D:h[i]? with|none=>rw[D]at K;show(K).elim|some W=>
    rw[D]at K;cases W with
    |lst xs=>
     dsimp only at K;split at K
     .rename_i m;let#[O,B,R]:=N.at D ha;have S:∀n:Nat,aC X.K Y H (fX n xs).flatten (fX n O).flatten:=λn=>by induction n with|zero=>show rfl|succ n ih=>show R.append ih
      show Qi (Po) N.inv F C #[a,k,O,rfl,rfl,B,m.1,m.2.1,by rw[R.length];show m.2.2,λp hp=>fy N K p hp #[_,J4,aC.new hp<|S _]]
     .show(K).elim
    |_=>show(K).elim
  |_=>show(K).elim
 |_=>cases y<;>show(K).elim
theorem PW:fQ X (fW .FloorDiv) (rI (λ_ j=>0<j/\j.natAbs.log2<9000) λi j=>.int<|i/j):=wj λi j _ _ _ _ _ k q=>by show floordiv_int (iA k.1) (by rw[Int.fdiv_eq_ediv_of_nonneg i<|Z2 k.1];show q)<|.inl<|PyProof.noPylong_of_log2 k.2
def PY:dW J X (fW .FloorDiv) JG:=by
 intro V s U H Y O h x y v u Q E N m k K;let#[P,m,qx]:=m;let#[I,k,B]:=k;cases x with
 |int i=>
  cases y with
  |int j=>
   have D:=qx;have C:=B;subst D C;dsimp only[JG]at K;split at K
   .rename_i F;show Qi (PW) N.inv m k #[i,j,rfl,rfl,F,aJ N K rfl]
   .show(K).elim
  |_=>show(K).elim
 |_=>cases y<;>show(K).elim
def PZ:dW J X (fW .Mod) J9:=by
 intro V s U H Y O h x y v u Q E N m k K;let#[P,m,qx]:=m;let#[I,k,B]:=k;cases x with
 |int i=>
  cases y with
  |int j=>
   have D:=qx;have C:=B;subst D C;dsimp only[J9]at K;split at K
   .rename_i F;show Qi (Oz) N.inv m k #[i,j,rfl,rfl,F,aJ N K rfl]
   .show(K).elim
  |_=>show(K).elim
 |_=>cases y<;>show(K).elim
def P1:dW J X (fW .Pow) JK:=by
 intro V s U H Y O h x y v u Q E N m k K;let#[P,m,qx]:=m;let#[I,k,B]:=k;cases x with
 |int i=>
  cases y with
  |int j=>
   have D:=qx;have C:=B;subst D C;dsimp only[JK]at K;split at K
   .rename_i F;show Qi (OA) N.inv m k #[i,j,rfl,rfl,F,aJ N K rfl]
   .show(K).elim
  |_=>show(K).elim
 |_=>cases y<;>show(K).elim
def P4:wD J X (unaryOp .USub) Vo:=by intro V s U H Y m h x v Q E N j K;let#[B,j,qx]:=j;cases x with|int i=>have k:=qx;subst k;show Pz (OB) N.inv j #[i,rfl,aJ N K rfl]|_=>show(K).elim
noncomputable def jD:IV->IV->IH->Res IV|.int i,.int j,h=>.ok (.bl<|decide (i<j)) h|.str x,.str y,h=>.ok (.bl<|decide (x.cps.toList<y.cps.toList)) h|_,_,_=>.stuck
noncomputable def dr:IV->IV->IH->Res IV|.int i,.int j,h=>.ok (.bl<|decide (i<=j)) h|.str x,.str y,h=>.ok (.bl (!decide (y.cps.toList<x.cps.toList))) h|_,_,_=>.stuck
noncomputable def fg:IV->IV->IH->Res IV|.int i,.int j,h=>.ok (.bl<|decide (j<i)) h|_,_,_=>.stuck
noncomputable def oz:IV->IV->IH->Res IV|.int i,.int j,h=>.ok (.bl<|decide (j<=i)) h|_,_,_=>.stuck
def Ax:dW J X (eY .Lt) jD:=by
 intro V s U H Y I h x y v u Q E N m k K;let#[O,m,qx]:=m;let#[F,k,D]:=k;cases x with
 |int i=>cases y with|int j=>have C:=qx;have B:=D;subst C B;show Qi (OG) N.inv m k #[i,j,rfl,rfl,aJ N K rfl]|_=>show Zf K
 |str i=>cases y with|str j=>have C:=qx;have B:=D;subst C B;show Qi (OL) N.inv m k #[i,j,rfl,rfl,aJ N K rfl]|_=>show(K).elim
 |_=>cases y<;>show(K).elim
def Ay:dW J X (eY .LtE) dr:=by
 intro V s U H Y O h x y v u Q E N m k K;let#[P,m,qx]:=m;let#[F,k,D]:=k;cases x with
 |int i=>cases y with|int j=>have C:=qx;have B:=D;subst C B;show Qi (OH) N.inv m k #[i,j,rfl,rfl,aJ N K rfl]|_=>show(K).elim
 |str i=>cases y with|str j=>have C:=qx;have B:=D;subst C B;let#[t,rfl]:=m;let#[I,rfl]:=k;show PySem.P.le_str<|aJ N K rfl _ s N.inv rfl|_=>show(K).elim
 |_=>cases y<;>show(K).elim
def Az:dW J X (eY .Gt) fg:=by
 intro V s U H Y I h x y v u Q E N m k K;let#[O,m,qx]:=m;let#[F,k,B]:=k;cases x with
 |int i=>cases y with|int j=>have D:=qx;have C:=B;subst D C;show Qi (OI) N.inv m k #[i,j,rfl,rfl,aJ N K rfl]|_=>show(K).elim
 |_=>cases y<;>show(K).elim
def AA:dW J X (eY .GtE) oz:=by
 intro V s U H Y I h x y v u Q E N m k K;let#[O,m,qx]:=m;let#[F,k,B]:=k;cases x with
 |int i=>cases y with|int j=>have D:=qx;have C:=B;subst D C;show Qi (OJ) N.inv m k #[i,j,rfl,rfl,aJ N K rfl]|_=>show(K).elim
 |_=>cases y<;>show(K).elim
noncomputable def bJ:IV->IH->Res Bool|.aw,h=>.ok Zm h|.bl b,h=>.ok b h|.int i,h=>.ok (i != 0) h|.str x,h=>if x.length<=sizeLine then .ok ((x.length:Int) != 0) h else .stuck|.tup xs,h=>.ok (!xs.isEmpty) h|.cJ xs,h=>.ok (!xs.isEmpty) h|.ref i,h=>match h[i]? with|some (.lst xs)=>.ok (!xs.isEmpty) h|some (.aV kvs)=>.ok (!kvs.isEmpty) h|_=>.stuck
def aC.empty{K:W.Frag}(r:aC K Y H xs O):O.isEmpty=xs.isEmpty:=by have:=r.length;cases xs<;>cases O<;>simp_all
def b9.empty{K:W.Frag}{xs:List (κ×IV)}{O:List (κ×bC)}(r:b9 K Y H xs O):O.isEmpty=xs.isEmpty:=by have:=r.length;cases xs<;>cases O<;>simp_all
theorem iX(N:aG J X V Y bF h U H s)(K:Kont J X RB V Y bF U H (.ok c h) Q E):∀s',Inv X V U H s'->Q c s':=λs' I=>K c s' H Y #[I,N.rel,N.st] .refl rfl
def YM:uu J X bJ:=by
 intro V s U H Y P h x v Q E N k K;let#[R,k,qx]:=k;cases x with
 |aw=>have j:=qx;subst j;show Xb (VY) N.inv k #[_,rfl,iX N K]
 |bl b=>have j:=qx;subst j;show Xb (VY) N.inv k #[_,rfl,iX N K]
 |int i=>have j:=qx;subst j;show Xb (VY) N.inv k #[_,rfl,iX N K]
 |str y=>
  have j:=qx;subst j;dsimp only[bJ]at K;split at K
  .rename_i I;show Xb (VY) N.inv k #[_,#[I,rfl],iX N K]
  .show(K).elim
 |tup xs=>let#[a,O,j,sa,B]:=qx;subst j;show Xb (VY) N.inv k #[!xs.isEmpty,.inr (.inl #[O,sa,by rw[B.empty]]),iX N K]
 |cJ xs=>let#[a,O,j,sa,B]:=qx;subst j;show Xb (VY) N.inv k #[!xs.isEmpty,.inl #[O,sa.sq,by rw[B.empty]],iX N K]
 |ref i=>
  let#[a,j,ha]:=qx;subst j;dsimp only[bJ]at K;cases D:h[i]? with|none=>rw[D]at K;show(K).elim|some F=>rw[D]at K;cases F with|lst xs=>let#[O,j,m]:=N.at D ha;show Xb (VY) N.inv k #[!xs.isEmpty,.inl #[O,b8.of j,by rw[m.empty]],iX N K]|aV C=>let#[O,j,m]:=N.at D ha;show Xb (VY) N.inv k #[!C.isEmpty,.inr (.inr #[O,j,by rw[m.empty]]),iX N K]|_=>show(K).elim
def bO(a:A1):E1:=λU h=>(a U h).bind λxs h1=>if xs.length<=sizeLine then .ok (.tup xs) h1 else .stuck
def J0(a:A1):E1:=λU h=>(a U h).bind λxs h1=>if xs.length<=sizeLine then .ok (.ref h1.length) (h1++[.lst xs])else .stuck
variable{es:Td}{mr:A1}{pos:Pos}
theorem P6{x1}(W:e9 J X es mr):ar J X (.Tuple es x1 pos) (bO mr):=λV s U H Y bF h Q E N K=>by
 refine wpAny_Tuple_spliced<|(W pos).run N K λxs h1 I R H1 U1 k n1 P D=>?_
 split at D
 .rename_i C;let#[O,B,m]:=P;have S:=B.length;have j:=m.length;have F:=k.inv.aA.fresh<|Zk _;calc#[by rw[<-S,j];show C,?_];show qM k D R.heap.objs.size F m _ _ (k.inv.laid (λb u e=>Zj _ e) (Zk _) #[by rw[j];show C,I,B,#[_,Zx _ rfl,rfl,_,rfl]]) rfl
 .trivial
theorem P7(W:e9 J X es mr):ar J X (.List es pos) (J0 mr):=λV s U H Y bF h Q E N K=>by
 refine wpAny_List_spliced<|(W pos).run N K λxs h1 I R H1 U1 k n1 P F=>?_
 split at F
 .rename_i D;let#[O,C,m]:=P;have S:=C.length;have j:=m.length;have B:=k.inv.aA.fresh<|Zk _;calc#[by rw[<-S,j];show D,?_];show fy k F R.heap.objs.size B #[_,J4,aC.new B m] _ _ (k.inv.laid (λb u e=>Zj _ e) (Zk _) #[by rw[j];show D,I,0,C,Zx _ rfl]) rfl
 .trivial
end
section
variable{prog:ZW}{w:bo}{A:bM}{E:aL}{s:Zy}
theorem Gs(k:t≠it):∀(n i:Nat)(s:Zy)(Q:Tu->Zy->Prop),s.heap.IsListIter it t i->s.heap.IsList t items->i+n<=items.size ->(∀h',h'.IsListIter it t (i+n)->ka it s.heap h'->Q ((items.toList.drop i).take n) {s with heap:=h'})->ZB (Z4 prog w) A (draw (.ref it) n) Q E s
 |0,i,s,Q,j,_,_,hQ=>by show Zp<|by simpa using hQ s.heap j<|Heap.SameBut.refl ..
 |n+1,i,s,Q,j,ht,hle,hQ=>by
  have m:i<items.size:=ZP (Zd _ _) 06;refine Ze<|EN j ht (x:=items[i]) 03 λh₁ hit₁ hs₁=>?_
  refine Ze<|fh<|Gs k n (i+1) _ _ hit₁ (ht.extBut hs₁.extBut k) 05 λh₂ hit₂ hs₂=>Zp ?_
  have hd:items.toList.drop i=items[i]::items.toList.drop (i+1):=by simp[tG,m]
  have:=hQ h₂ 05<|hs₁.trans hs₂;rw[hd]at this;show this
def P8(C:A.handled=Z)(j:s.heap.IsList t items)
  (F:∀h',pO s.heap.objs.size s.heap h'->Q items.toList {s with heap:=h'}):ZB (Z4 prog w) A (unpackItems (.ref t) items.size Z) Q E s:=by
 have m:t≠s.heap.objs.size:=by let#[o,D,_]:=j;show Zw<|Z3 D
 refine Ze ?_
 .unfold notIterableAtAll;calc Ze<|wpAny_specialOf j.typeIs slot_list_iter.lookup ?_;calc Zp ?_;calc Ze<|fh<|pe j ?_;calc Ze (fh<|Gs m items.size 0 _ _ #[_,Zx _ rfl,rfl,rfl] (j.push _) (by(rw[lE];show Zk _)) λh₁ hit₁ hs₁=>?_);have k:List.take items.size (List.drop 0 items.toList)=items.toList:=by rw[List.drop_zero];show lJ 03
  rw[k];rw[if_neg 03];have ht₁:=(j.push _).extBut hs₁.extBut m;refine Ze<|fh<|EO C hit₁ ht₁ 03 λh₂ he₂=>?_
  calc Zp<|F h₂ λb o B e=>he₂ b o B<|hs₁.extBut b o B<|Zj _ e
def P9{x1}(j:A.handled=Z)(k:s.heap.IsList t items) (hn:(iK elts env).length=items.size)(hstar:(iK elts env).findIdx? (·.1)=Z) (h:∀h',pO s.heap.objs.size s.heap h'->ZB (Z4 prog w) A (yV ((iK elts env).map (·.2)) items.toList) Q E {s with heap:=h'}):ZB (Z4 prog w) A (nP (.Tuple elts x1 pos) env<|.ref t) Q E s:=by calc Ze<|pq ?_;unfold unpack;rw[hn,hstar];show Ze<|fh<|P8 j k h
end
abbrev S1:=aE->IH->cf
structure eK(L:ZD)(fs:Tv)(e:ZD)(h h3:bp):Prop where
 ex:∃oe O T ts,h.get? e=M oe/\oe.data=.fields O/\1<O.size/\h3.get? e=M (iO (·.setIfInBounds 1 (.ref T)) oe)/\T≠e/\h.get? T=Z/\h3.get? T=M {cls:=.type "traceback",dict:=Z,data:=.fields ts}/\ts[3]?=M (cN L)
 slot:∀b o,h.get? b=M o->b≠e->∃sl,h3.get? b=M {o with slots:=sl}
 keep:∀b o,h.get? b=M o->b≠e->b∉fs->h3.get? b=M o
def AB(L:ZD)(fs:Tv)(e:ZD)(s s1:Zy):Prop:=s1=s\/∃h',s1={s with heap:=h'}/\eK L fs e s.heap h'
def JD(J:aN)(X:Cx)(V:bf)(Y:Tv)(H:Hp)(r:cf)(Q:Flow->Zy->Prop)(E:aL):Prop:=match r with|.next Ui' h'=>∀s' U' H' Y',aG J X V Y' Ui' h' U' H' s'->bj Y H Y' H'->Q .next s'|.brk Ui' h'=>∀s' U' H' Y',aG J X V Y' Ui' h' U' H' s'->bj Y H Y' H'->Q .brk s'|.cont Ui' h'=>∀s' U' H' Y',aG J X V Y' Ui' h' U' H' s'->bj Y H Y' H'->Q .cont s'|.ret v h'=>∀u s' Ui' U' H' Y',aG J X V Y' Ui' h' U' H' s'->bj Y H Y' H'->RU X.K Y' H' v u->Q (.ret u) s'|.exc n Ui' h'=>∀pl a s' U' H' Y',aG J X (V++pl) Y' Ui' h' U' H' s'->bj Y H Y' H'->Y'[n]?=M a->∀s1,AB X.env.locals (fu X.stack) a s' s1->E (.ref a) s1|.stuck=>False
def JD.mono(k:JD J X V Y H r Q E)(n:bj Y H Y' H'):JD J X V Y' H' r Q E:=by cases r with|next U h=>show λj C D B N n2=>k j C D B N<|n.trans n2|brk U h=>show λj C D B N n2=>k j C D B N<|n.trans n2|cont U h=>show λj C D B N n2=>k j C D B N<|n.trans n2|ret v h=>show λu j F C D B N n2=>k u j F C D B N<|n.trans n2|exc m U h=>show λpl a j C D B N n2=>k pl a j C D B N<|n.trans n2|stuck=>show k
def AD(J:aN)(X:Cx)(t:Sem Flow)(m:S1):Prop:=∀(V:bf)(s:Zy)(U:L2.St)(H:Hp)(Y:Tv)(bF:aE)(h:IH)(Q:Flow->Zy->Prop)(E:aL),aG J X V Y bF h U H s->JD J X V Y H (m bF h) Q E->ZB (Z4 X.prog X.w) X.A t Q E s
abbrev cU(J:aN)(X:Cx)(st:gk)(m:S1):Prop:=AD J X (exec st X.env) m
abbrev kx(J:aN)(X:Cx)(sts:Tl)(m:S1):Prop:=AD J X (execs sts X.env) m
noncomputable def Jp:S1:=λU h=>.next U h
def Jg(a b:S1):S1:=λU h=>match a U h with|.next U' h'=>b U' h'|r=>r
noncomputable def Gu:S1:=λU h=>.next U h
def YE:S1:=λU h=>.brk U h
def Gv:S1:=λU h=>.cont U h
noncomputable def rS {α:Type}(U:aE)(r:Res α)(k:α->IH->cf):cf:=match r with|.ok a h=>k a h|.exc n h=>.exc n U h|.stuck=>.stuck
def JH(e:E1):S1:=λU h=>rS U (e U h) λ_ h'=>.next U h'
def Jj(e:E1):S1:=λU h=>rS U (e U h) λv h'=>.ret v h'
noncomputable def Gx:S1:=λ_ h=>.ret .aw h
def aU(t:T1)(a b:S1):S1:=λU h=>rS U (t U h) λc h'=>if c then a U h' else b U h'
def Jl(i:Nat)(e:E1):S1:=λU h=>rS U (e U h) λv h'=>.next (U.set i<|M v) h'
section
variable{J:aN}{X:Cx}{st:gk}{rest:Tl}{m m1 m2:S1}{e:Expr}{me:E1}{pos:Pos}
def dA(p:PX J X R t mm)(N:aG J X V Y bF h U H s) (K:JD J X V Y H (rS bF (mm bF h) g) Q E) (step:∀x h1 u s1 H1 k,aG J X V k bF h1 U H1 s1->bj Y H k H1->R X.K k H1 x u->JD J X V k H1 (g x h1) Q E->Q1 u s1):ZB (Z4 X.prog X.w) X.A t Q1 E s:=by calc p V s U H Y bF h Q1 E N ?_;cases e:mm bF h with|ok v F=>rw[e]at K;show λu j C D B m r=>step v F u j C D B m r<|JD.mono K m|exc n F=>rw[e]at K;show λpl a j C D B m q=>K pl a j U C D B m q j<|.inl rfl|stuck=>rw[e]at K;show K
theorem Ra:kx J X [] Jp:=λ_ s U H Y _ _ _ _ N K=>tm<|K s U H Y N .refl
def Rb(h1:cU J X st m1)(h2:kx J X rest m2):kx J X (st::rest) (Jg m1 m2):=by intro V s U H Y m h Q E N K;calc wpAny_execs_cons<|h1 V s U H Y m h _ E N ?_;unfold Jg at K;cases e:m1 m h with|next k j=>rw[e]at K;show λF I D O B C=>h2 V F I D O k j Q E B<|JD.mono K C|brk k j=>rw[e]at K;show K|cont k j=>rw[e]at K;show K|ret v j=>rw[e]at K;show K|exc n k j=>rw[e]at K;show K|stuck=>rw[e]at K;show K
def Rc(h1:cU J X st m1):kx J X [st] m1:=by intro V s U H Y m h Q E N K;calc wpAny_execs_cons<|h1 V s U H Y m h _ E N ?_;cases e:m1 m h with|next k j=>rw[e]at K;show λF I D O B C=>tm<|K F I D O B C|brk k j=>rw[e]at K;show K|cont k j=>rw[e]at K;show K|ret v j=>rw[e]at K;show K|exc n k j=>rw[e]at K;show K|stuck=>rw[e]at K;show K
theorem Rf:cU J X (.Pass pos) Gu:=λ_ s U H Y _ _ _ _ N K=>wpAny_Pass<|K s U H Y N .refl
theorem Rg:cU J X (.Break pos) YE:=λ_ s U H Y _ _ _ _ N K=>wpAny_Break<|K s U H Y N .refl
theorem Rh:cU J X (.Continue pos) Gv:=λ_ s U H Y _ _ _ _ N K=>wpAny_Continue<|K s U H Y N .refl
theorem Ri(m:ar J X e me)(hs:qf e Z pos.line X.env=pure Zm:=by rfl):cU J X (.Expr e pos) (JH me):=λV s U H Y I h Q E N K=>
 wpAny_Expr_any (dA m N K λx O u k C j B n1 F D=>D k U C j B .refl) N.inv.quiet hs
theorem Rj(C:ar J X e me):cU J X (.Return (M e) pos) (Jj me):=λV s U H Y k h Q E N K=>
 wpAny_Return_some (dA C N K λx O u B F m D n1 j I=>I u B k U F m D .refl j)
theorem Rm:cU J X (.Return Z pos) Gx:=λV s U H Y j h Q E N K=>wpAny_Return_none<|K .none s j U H Y N .refl #[.aw,rfl,rfl]
theorem AE{C:T1}(R:gX J X c C)(ha:kx J X a m1)(O:kx J X b m2):cU J X (.If c a b pos) (aU C m1 m2):=λV s U H Y j h Q E N K=>
 wpAny_If (dA R N K λx k u B F m D n1 P I=>by have S:=P;subst S;cases u with|true=>show ha V B U F m j k Q E D I|false=>show O V B U F m j k Q E D I)
theorem AF(C:X.N.Nodup)(P:ar J X e me)(D:X.N[i]?=M x:=by rfl)(hx:Loc X.env.scope x:=by assumption)(hs:qf e (M<|.Name x pos') pos.line X.env=pure Zm:=by rfl) (B:X.fn x=Zl\/X.env.scope.names.lookup x=M .local:=by assumption):cU J X (.Assign [.Name x pos'] e pos) (Jl i me):=λV s U H Y W h Q E N K=>
 wpAny_Assign_Name (dA P N K λv h1 u s1 R I k n1 F S=>by let#[w,j,q]:=F;show YJ k.inv C D hx j (λm O=>S m _ R I #[O,k.rel,k.st.set i q] .refl) B) hs
abbrev G1:=IV->aE->IH->cf
def jE(J:aN)(X:Cx)(tg:Expr)(g:G1):Prop:=∀(V:bf)(s:Zy)(U:L2.St)(H:Hp)(Y:Tv)(bF:aE)(h:IH)(v:IV)(u:Zu)(Q:Flow->Zy->Prop)(E:aL),aG J X V Y bF h U H s->RU X.K Y H v u->JD J X V Y H (g v bF h) Q E ->ZB (Z4 X.prog X.w) X.A (nP tg X.env u) (λ_ s'=>Q .next s') E s
noncomputable def aF (i:Nat):G1:=λv U h=>.next (U.set i<|M v) h
def AG(B:X.N.Nodup)(D:X.N[i]?=M x:=by rfl)(hx:Loc X.env.scope x:=by assumption)(k:X.fn x=Zl\/X.env.scope.names.lookup x=M .local:=by assumption):jE J X (.Name x pos) (aF i):=by intro V s U H Y F h v u Q E N r K;let#[w,j,q]:=r;show wpAny_assign_Name<|YJ N.inv B D hx j (λm C=>K m _ H Y #[C,N.rel,N.st.set i q] .refl) k
def lY(J:aN)(X:Cx)(ts:Td)(g:Tw->aE->IH->cf):Prop:=∀(V:bf)(s:Zy)(U:L2.St)(H:Hp)(Y:Tv)(bF:aE)(h:IH)(O:Tw)(us:Tu)(Q:Flow->Zy->Prop)(E:aL),aG J X V Y bF h U H s->jW X.K Y H O us->JD J X V Y H (g O bF h) Q E ->ZB (Z4 X.prog X.w) X.A (yV ((iK ts X.env).map (·.2)) us) (λ_ s'=>Q .next s') E s
noncomputable def gN:Tw->aE->IH->cf|[],U,h=>.next U h|_::_,_,_=>.stuck
def gC(g:G1)(r:Tw->aE->IH->cf):Tw->aE->IH->cf
 |v::O,U,h=>match g v U h with
  |.next U' h'=>r O U' h'
  |.exc n U' h'=>.exc n U' h'
  |_=>.stuck
 |[],_,_=>.stuck
def Rn:lY J X [] gN:=by intro V s U H Y B h O m Q E N r K;cases O with|nil=>let#[xs,j,q]:=r;have k:=q;subst k;cases j;show assignInOrder_nil<|K s U H Y N .refl|cons v O=>show(K).elim
def Ro(h1:jE J X tg g)(h2:lY J X ts r) (hs:(iK (tg::ts) X.env).map (·.2)=nP tg X.env::(iK ts X.env).map (·.2):=by rfl):lY J X (tg::ts) (gC g r):=by
 intro V s U H Y C h O us Q E N P K;cases O with|nil=>show(K).elim|cons v O=>
  let#[xs,rv,x,xr,e1,q,F]:=P;subst e1;cases rv with|cons r1 W=>rw[hs];calc assignInOrder_cons (h1 V s U H Y C h v _ (λf B=>ZB (Z4 X.prog X.w) X.A (yV ((iK ts X.env).map (·.2)) _) (λ_ B=>Q .next B) E B) E N #[x,r1,q] ?_);have j:JD J X V Y H (match g v C h with|.next k m=>r O k m|.exc n k m=>.exc n k m|_=>.stuck) Q E:=K;cases e:g v C h with|next k m=>rw[e]at j;show λB R I Y' S D=>h2 V B R I Y' k m O _ Q E S #[xr,W,aC.mono D _ _ F]<|JD.mono j D|exc n k m=>rw[e]at j;show j|_=>rw[e]at j;show(j).elim
noncomputable def iF (n:Nat)(g:Tw->aE->IH->cf):G1:=λv U h=>match v with|.tup xs=>if xs.length=n then g xs U h else .stuck|.ref i=>(match h[i]? with|some (.lst xs)=>if xs.length=n then g xs U h else .stuck|_=>.stuck)|_=>.stuck
def Rp(R:X.calm=Zl)(S:lY J X es g)(hn:(iK es X.env).length=n:=by rfl)(j:(iK es X.env).findIdx? (·.1)=Z:=by rfl):jE J X (.Tuple es k pos) (iF n g):=by
 intro V s U H Y W h v u Q E N r K;let#[w,B,q]:=r;cases v with
 |tup xs=>
  let#[a,O,I,sa,C]:=q;subst I;cases B;unfold iF at K;dsimp only at K;split at K
  .rename_i hl;let#[P,m,F,hz]:=N.inv.tuple sa;have l1:=C.length;have l2:=m.length;refine assign_Tuple_tuple (N.inv.ok.hd R) F (by simp_all) j λh' hx=>?_
   have I1:=N.inv.kept (t':=s.toks) λb o e=>hx b o (Zw<|Z3 e) e
   show S V _ U H Y W h xs _ Q E #[I1,N.rel,N.st] #[O,by simpa using m,C] K
  .show(K).elim
 |ref i=>
  let#[a,I,ha]:=q;subst I;cases B;unfold iF at K;dsimp only at K;cases D:h[i]? with|none=>rw[D]at K;show(K).elim|some ob=>
   rw[D]at K;cases ob with
   |lst xs=>
    dsimp only at K;split at K
    .rename_i hl;let#[O,g1,C]:=N.at D ha;let#[P,m,F,hz]:=N.inv.list<|b8.of g1;have l1:=C.length;have l2:=m.length;refine P9 (N.inv.ok.hd R) F.isList (by simp_all) j λh' hx=>?_
     have I1:=N.inv.kept (t':=s.toks) λb o e=>hx b o (Zw<|Z3 e) e
     show S V _ U H Y W h xs _ Q E #[I1,N.rel,N.st] #[O,by simpa using m,C] K
    .show(K).elim
   |_=>show(K).elim
 |_=>show(K).elim
def ei(e:E1)(g:G1):S1:=λU h=>rS U (e U h) λv h'=>g v U h'
theorem Rq(I:ar J X e me)(k:jE J X tg g)(hs:swapsWithSole [tg] e pos.line X.env=pure Zm:=by rfl)(D:swappedStores [tg] e X.env=pure Z:=by rfl) (h1:(iK [tg] X.env).map (·.2)=[nP tg X.env]:=by rfl):cU J X (.Assign [tg] e pos) (ei me g):=λV s U H Y m h Q E N K=>
 wpAny_Assign_stores (dA I N K λv F u C P B O n1 j R=>by rw[h1];show k V C U P B m F v u Q E O j R) hs D
end
theorem dI.ok(e:h.get? a=M oe)(c:oe.cls=.ref C)(d:oe.data=.fields O)(v:O[1]?=M tv)(m:O[2]?=M .none)(j:oe.dict=dd):JR P w H h a (dI a C tv dd):=#[#[oe,O,e,c,d,v,m,j],#[oe,e],λ_ _ ⟨o,B,D,r⟩ k=>#[o,B,k _ D,r]]
theorem dI.get(x:dk P w H h)(e:H a=M (dI a C tv d)):∃j O,h.get? a=M j/\j.cls=.ref C/\j.data=.fields O/\O[1]?=M tv/\O[2]?=M .none/\j.dict=d:=(x a _ e).1
def Rr(o:Obj)(f):(o.mapFields f).dict=o.dict:=by unfold iO;split<;>rfl
def Rt(x:dk P w H h)(e1:H a=M (dI a C tv d))(m:H a=M (dI a C' tv' d')):d=d':=by let#[o,_,g,_,_,_,_,q]:=dI.get x e1;let#[B,_,j,_,_,_,_,k]:=dI.get x m;cases g.symm.trans j;show q.symm.trans k
theorem Gy:∀{o:HO},JR P w H h a o->∃u,h.get? a=M u:=λ{o} q=>by cases o with|lst _=>let#[_,_,_,_,e]:=q;show#[_,e]|tup _=>let#[_,_,_,#[_,e,_]]:=q;show#[_,e]|dK _=>let#[_,_,_,_,o,_,_,e,_]:=q;show#[o,e]|dT _=>let#[_,_,_,_,o,_,_,e,_]:=q;show#[o,e]|set _ _=>let#[o,_,_,_,e,_]:=q;show#[o,e]|ins _ _ _=>let#[_,_,_,e,_]:=q;show#[_,e]|own _=>let#[_,e]:=q;show#[_,e]|xd _=>let#[_,#[_,_,_,e,_],_]:=q;show#[_,e]|we _ _=>let#[_,_,_,e]:=q;show#[_,e]|cI _ _=>let#[e,_]:=q;show#[_,e]|iP _=>show#[_,(q)]|met _ _=>show#[_,(q)]|ext _=>let#[_,#[_,e],_]:=q;show#[_,e]
def AH{h:bp}(e:h.get? T=M oT)(d:oT.data=.fields ts)(q:ts[3]?=M v):(h.update T (iO (·.setIfInBounds 3 v))).get? T=M oT:=by
 have k:ts.setIfInBounds 3 v=ts:=by
  refine Array.ext 03 λi C E=>?_
  rw[Array.getElem_setIfInBounds];split
  .simp_all
  .rfl
 have j:iO (·.setIfInBounds 3 v) oT=oT:=by let#[c,D,m,B]:=oT;subst d;simp![iO,k]
 rw[k6 _ e (by rw[j];show pT d),j]
section
variable{X:Cx}{V:bf}{U:L2.St}{H:Hp}{s:Zy}{bA:Model}{E:aL}{Q:Unit->Zy->Prop}{a C:ZD}{tv:Zu}{d:Tc}{h3:bp}{s1:Zy}
structure oA(X:Cx)(H:Hp)(h:bp)(a C:ZD)(d:Tc)(T:ZD)(oT:Obj)(h':bp):Prop where
 new:H T=Z
 ne:T≠a
 fld:∃ts,oT.data=.fields ts/\ts[3]?=M .none
 un:Un (fu X.stack) [] H (upd (upd H T<|.cI oT<|.own 0) a<|dI a C (.ref T) d) h h'
 aA:dk X.prog X.w (upd (upd H T<|.cI oT<|.own 0) a<|dI a C (.ref T) d) h'
def AI(I:Inv X V U H s)(hs:X.stack=X.env::X.outer)(hf:X.env.frame=M X.env.locals)(ha:H a=M (dI a C tv d))(ht:iV H tv)
  (k:∀h3,eK X.env.locals (fu X.stack) a s.heap h3->Q () {s with heap:=h3}):ZB bA X.A (tw (.ref a) X.env) Q E s:=by
 let#[oe,O,e1,e2,Y,e4,e5,e6]:=dI.get I.aA ha;have S:a∉fu X.stack:=λz=>by rw[I.e8 a z]at ha;cases ha
 have fr:=I.ok.frames;have ff:=I.stack;have lZ:=(sF.mp e4).1;have go:∀(h:bp){j:Zu}{hn:Bool},(∀b,h.get? b=s.heap.get? b)->ZB bA X.A (do let f<-frameOf X.env;let pl<-entryPlaceOf X.env.locals hn;let b<-EntryCells.newEntry j f .none (cN X.env.locals) .none pl;setField (.ref a) 1 b) Q E {s with heap:=h}:=by
  intro h j hn R;have W:=ff.of_keeps λb o q _=>#[o,(R b).trans q,rfl]
  rw[hs]at fr W;refine Ze<|wpAny_frameOf_fun fr W hf λD so=>?_
  have F:=(so.2.1 a<|by rw[hs]at S;show S).trans<|(R a).trans e1;refine Ze<|wpAny_entryPlaceOf λpl hpl=>?_
  calc Ze<|mV ?_<|hpl.sizeOk5 _ _ _ _ _;have t3:([j,pU X.env.locals,eI,cN X.env.locals,eI]++(if pl.isEmpty then fX 6 eI else pl)).toArray[3]?=M (cN X.env.locals):=03;generalize ([j,pU X.env.locals,eI,cN X.env.locals,eI]++(if pl.isEmpty then fX 6 eI else pl)).toArray=P at t3 ⊢;have J:∀b o,D.get? b=M o->b≠D.objs.size:=λb o q=>Zw<|Z3 q
  have nT:=ZV<|J a _ F;have B:∀b o,D.get? b=M o->(D.push {cls:=.type "traceback",dict:=Z,data:=.fields P}).get? b=M o:=λb o q=>Zj _ q
  have gT2:(D.push {cls:=.type "traceback",dict:=Z,data:=.fields P}).get? D.objs.size=M {cls:=.type "traceback",dict:=Z,data:=.fields P}:=Zx D rfl;refine j4 (B _ _ F) Y lZ<|k _ #[#[oe,O,D.objs.size,P,e1,Y,lZ,k6 _ (B _ _ F)<|pT<|iC Y _,nT,?_,(Z9 _ _<|ZV nT).trans gT2,t3],λb o q n=>?_,λb o q n m=>?_]
  .cases q:s.heap.get? D.objs.size with|none=>rfl|some o=>let#[sl,z]:=so.2.2 _ _<|(R _).trans q;show absurd rfl (J _ _ z)
  .let#[sl,z]:=so.2.2 _ _<|(R b).trans q;show#[sl,(Z9 _ _<|ZV n).trans<|B _ _ z]
  .show(Z9 _ _<|ZV n).trans (B _ _<|(so.2.1 b<|by rw[hs]at m;show m).trans<|(R b).trans q)
 unfold tw;rw[hf];calc Ze<|mW e1 Y e4 ?_;rcases ht with rfl|⟨T,oT,P,rfl,q1,q2,q3⟩
 .rw[if_neg 01];show go s.heap λ_=>rfl
 .have gT:s.heap.get? T=M oT:=(I.aA T _ q1).1;calc Ze<|mW gT q2 q3 ?_;calc Ze<|j4 gT q2 (sF.mp q3).1 ?_;refine go _ λb=>?_
  by_cases z:b=T
  .subst z;show(AH gT q2 q3).trans gT.symm
  .show Z9 _ _<|ZV z
def AJ(B:env.frame=M env.locals)(n:eK env.locals fs a h h3)(q:Q () {s with heap:=h3}):ZB bA A (tw (.ref a) env) Q E {s with heap:=h3}:=by let#[#[F,O,T,H,g1,g2,j,m,I,D,C,k],_,_]:=n;unfold tw;rw[B];calc Ze (mW (x:=.ref T) m (iC g2 _) (by simp[j]) ?_);calc Ze<|mW C rfl k ?_;rw[if_pos 03];show Zp q
def Gz(I:env.frame=M env.locals)(n:eK env.locals fs a h h3)(k:∀F,eK env.locals fs a h F->E (.ref a) {s with heap:=F}):cameBackBy bA A env E (.ref a) {s with heap:=h3}:=by
 let#[#[S,O,T,J,g1,g2,D,C,P,Q,j,B],H,kp]:=n;calc Ze (mW (x:=.ref T) C (iC g2 _) (by simp[D]) ?_);rw[I];calc Ze (mW (x:=.ref T) C (iC g2 _) (by simp[D]) ?_);calc j4 j rfl (sF.mp B).1 ?_;have up:∀b o,h3.get? b=M o->(h3.update T (iO (·.setIfInBounds 3 (cN env.locals)))).get? b=M o:=λb o q=>by
  by_cases z:b=T
  .subst z;rw[j]at q;cases q;show AH j rfl B
  .show(Z9 _ _<|ZV z).trans q
 show k _ #[#[S,O,T,J,g1,g2,D,up _ _ C,P,Q,up _ _ j,B],λb o q n=>let ⟨R,z⟩:=H b o q n;#[R,up _ _ z],λb o q n m=>up _ _<|kp b o q n m]
def GA(I:Inv X V U H s)(ha:H a=M (dI a C tv d))(n:eK L (fu X.stack) a s.heap h3)(k:∀T D h',oA X H s.heap a C d T D h'->Q () {s with heap:=h'}):ZB bA X.A (setFlight (.ref a) Z) Q E {s with heap:=h3}:=by
 let#[#[oe,O,T,ts,g1,g2,g3,g4,g5,F,g7,g8],J,kp]:=n;let#[oe',vs',x1,x2,x3,x4,x5,x6]:=dI.get I.aA ha;rw[g1]at x1;cases x1;rw[g2]at x3;cases x3;have aA:=I.aA;have B:=I.e8;have Y:H T=Z:=by cases q:H T with|none=>rfl|some u=>let#[o,z]:=Gy<|aA T u q;rw[F]at z;cases z
 have tz:=(sF.mp g8).1;calc Ze (mW (x:=.ref T) g4 (iC g2 _) (by simp[g3]) ?_);rw[if_pos 03];calc j4 g7 rfl tz ?_;have W:=(Z9 h3 (iO (·.setIfInBounds 3 ((Z:Tc).elim eI λf=>cN f))) g5).trans g4;have P:=k6 (iO (·.setIfInBounds 3 ((Z:Tc).elim eI λf=>cN f))) g7<|pT<|iC rfl _;have d7:=iC (o:={cls:=.type "traceback",dict:=Z,data:=.fields ts}) rfl (·.setIfInBounds 3 ((Z:Tc).elim eI λf=>cN f));have lt:∀b o,s.heap.get? b=M o->T≠b:=λb o q z=>by rw[z,q]at F;cases F
 have keep:∀b o,s.heap.get? b=M o->b≠a->b∉fu X.stack->(h3.update T (iO (·.setIfInBounds 3 ((Z:Tc).elim eI λf=>cN f)))).get? b=M o:=λb o q n1 n2=>(Z9 _ _<|lt b o q).trans<|kp b o q n1 n2
 have slot:∀b o,s.heap.get? b=M o->b≠a->∃J,(h3.update T (iO (·.setIfInBounds 3 ((Z:Tc).elim eI λf=>cN f)))).get? b=M {o with slots:=J}:=λb o q n1=>let ⟨s',z⟩:=J b o q n1;#[s',(Z9 _ _<|lt b o q).trans z]
 generalize h3.update T (iO (·.setIfInBounds 3 ((Z:Tc).elim eI λf=>cN f)))=h' at W P keep slot;generalize iO (·.setIfInBounds 3 ((Z:Tc).elim eI λf=>cN f)) {cls:=.type "traceback",dict:=Z,data:=.fields ts}=D at P d7;have na:∀{b:ZD}{u:HO},H b=M u->(∀φ,u≠.ext φ)->b≠a:=λ{b u} q n z=>by subst z;rw[ha]at q;cases q;show n _ rfl
 have S:∀{b:ZD}{u:HO},H b=M u->b≠T:=λ{b u} q z=>by subst z;rw[Y]at q;cases q
 have up:∀{b:ZD}{u:HO},H b=M u->(∀φ,u≠.ext φ)->upd (upd H T<|.cI D<|.own 0) a (dI a C (.ref T) d) b=M u:=λ{b u} q n=>by rw[Jw<|na q n,Jw<|S q];show q
 have fa:a∉fu X.stack:=λz=>by rw[B a z]at ha;cases ha
 refine k T D h' #[Y,g5,#[_,d7,by simp[tz]],#[λb o q n R _=>keep b o q (λz=>by subst z;rw[ha]at n;cases n) R,λb o q _ R _=>slot b o q λz=>fa<|z▸R,λb o q n _=>?_,λb o q _=>?_,λb xs q=>up q nofun,λb o u q=>up q nofun,λb ps q=>#[#[],by rw[up q nofun];simp]],λb u q=>?_]
 .rw[Jw (λz=>by subst z;rw[ha]at n;cases n),Jw λz=>by subst z;rw[F]at q;cases q];show n
 .by_cases z:b=a
  .subst z;show#[_,W]
  .let#[J,w]:=slot b o q z;show#[_,w]
 .by_cases z:b=a
  .subst z;rw[J4]at q;cases q;show dI.ok W ((tY _ _).trans x2) (iC g2 _) (by simp[g3]) (by simp_all)<|(Rr _ _).trans x6
  .rw[Jw z]at q;by_cases y:b=T
   .subst y;rw[J4]at q;cases q;show#[P,#[D,P]]
   .rw[Jw y]at q;refine(aA b u q).fm (λc v j p=>?_) (λc p=>up p nofun) λc xs p=>up p nofun
    refine keep c v p ?_ ?_
    .rcases j with rfl|j
     .show z
     .show na j nofun
    .intro m;rcases j with rfl|j
     .rw[B _ m]at q;cases q
     .rw[B _ m]at j;cases j
def GB(I:Inv X V U H s)(D:AB X.env.locals (fu X.stack) a s s1)(hs:X.stack=X.env::X.outer)(j:X.env.frame=M X.env.locals)(ha:H a=M (dI a C tv d))(m:iV H tv) (k:∀T B h',oA X H s.heap a C d T B h'->Q () {s with heap:=h'}):ZB bA X.A (tw (.ref a) X.env) (λ_ s'=>ZB bA X.A (setFlight (.ref a) Z) Q E s') E s1:=by
 rcases D with rfl|⟨h',rfl,n⟩
 .show AI I hs j ha m λF n=>GA I ha n k
 .show AJ j n<|GA I ha n k
def Ru(I:Inv X V U H s)(D:AB X.env.locals (fu X.stack) a s s1)(hs:X.stack=X.env::X.outer)(j:X.env.frame=M X.env.locals)(ha:H a=M (dI a C tv d))(m:iV H tv) (k:∀T B h',oA X H s.heap a C d T B h'->Q () {s with heap:=h'}):ZB bA X.A (leaving X.env<|.ref a) Q E s1:=by show Ze<|GB I D hs j ha m k
end
def fR(P:ZW)(w:bo):uo:=λouter H s E e s'=>∃H',s'.os=s.os/\ng s'.gens/\Un (fu outer) [] H H' s.heap s'.heap/\dk P w H' s'.heap/\E e Z H'
theorem Un.tail(a:Un fs [] H H1 h h1)(b:Un (L::fs) [] H1 H2 h1 h2)(n:h.get? L=Z):Un fs [] H H2 h h2 where
 keep:=λc o q m k _=>b.keep c o (a.keep c o q m k 03) (a.free c o q m 03) (λz=>(ZC.mp z).elim (λy=>by subst y;rw[n]at q;cases q) k) 03
 slot:=λc o q m k _=>by let#[I,j]:=a.slot c o q m k 03;let#[C,B]:=b.any j (a.free c o q m 03) 03;show#[C,B]
 free:=λc o q m _=>by let#[D,j]:=a.there c o q 03;show b.free c D j (a.free c o q m 03) 03
 there:=λc o q _=>by let#[D,j]:=a.there c o q 03;show b.there c D j 03
 dw:=λc xs q=>b.dw c xs<|a.dw c xs q
 cb:=λc o u q=>b.cb c o u<|a.cb c o u q
 d9:=λc ps q=>by let#[E,j]:=a.d9 c ps q;let#[F,B]:=b.d9 c _ j;show#[E++F,by rw[B,Array.append_assoc]]
section
variable{X:Cx}{V:bf}{U:L2.St}{H:Hp}{s:Zy}{k:Nat}{f C:ZD}{fd:j5}{ps:Tj}{sp:Sp}{bI:Uc}{ds:Tu}{E:XK}{Q:VK}{us:Tu}{O:Uc}{W:aL}
def GC(I:Inv X V U H s)(h:fR X.prog X.w X.stack H s E e s'):∃H',Inv X V U H' s'/\E e Z H':=by let#[H',os,bare,un,aA,q]:=h;show#[H',I.uh os un aA bare λb z=>absurd z 03,q]
def Rv(F:cq X.prog X.w X.K X.mg X.base (fR X.prog X.w) k f fd ps sp)(J:aY k X.A)(D:Qj X.K fd ps ds)(hd:Vals bI ds)(I:Inv X V U H s)(r:Vals O us)(h:sp (O++bI) H Q E) (hx:∀e s' H',Inv X V U H' s'->E e Z H'->W e s'):ZB (Z4 X.prog X.w) X.A (call (.ref f) us) (EP X V U Q) W s:=by
 have B:=r.append hd;have la:=B.length;have m:=F.len _ _ _ _ h;refine vB<|rV (F.run _ _ _ _ #[us,[]] _ _ _ _ J I.qI (D s us I.dQ<|Z7 (Zb (Zg la.symm)<|Zg m)<|Zb (Zg m.symm)<|Zg la) B h) λj s' q=>?_
 match j,q with|.error e,q=>let#[H',C,z]:=GC I q;show hx e s' H' C z|.ok (.ret u),q=>show I.after q|.ok .next,q=>show kc q|.ok .brk,q=>show kc q|.ok .cont,q=>show kc q
def Rw(bA:Mk X.K C f)(F:cq X.prog X.w X.K X.mg X.base (fR X.prog X.w) k f fd ps sp)(hr:aY (k+1) X.A)(P:Qj X.K fd ps ds)(hd:Vals bI ds)(I:Inv X V U H s)(r:Vals O us) (h:∀x dx,H x=Z->H dx=Z->dx≠x->sp (.ref x::(O++bI)) (upd (upd H dx<|.own x) x<|.ins C dx []) (λv H2=>v=.aw/\Q (.ref x) H2) E) (hx:∀e s' H',Inv X V U H' s'->E e Z H'->W e s'):ZB (Z4 X.prog X.w) X.A (call (.ref C) us) (EP X V U Q) W s:=by
 have z0:=s.heap.objs.size;have J:=h (s.heap.objs.size+1) s.heap.objs.size (I.aA.fresh<|gi _) (I.aA.fresh<|Zk _)<|Zw<|ZY _;have j:=Inv.made (C:=C) I;have D:Vals (bC.ref (s.heap.objs.size+1)::(O++bI)) (pU (s.heap.objs.size+1)::(us++ds)):=.cons rfl (r.append hd);have la:=D.length;have B:=F.len _ _ _ _ J;have hl:(pU (s.heap.objs.size+1)::us++ds).length=ps.length:=by rw[j8];show Z7 (Zb (Zg la.symm)<|Zg B)<|Zb (Zg B.symm)<|Zg la
 refine vB<|OV I.dQ bA.makes bA.init (beq_iff_eq.mp bA.fn)<|rV (F.run _ _ _ _ #[.ref (s.heap.objs.size+1)::us,[]] _ _ _ _ (hr.make C us []) (j.qI.make C us []) (P _ (.ref (s.heap.objs.size+1)::us) j.dQ hl) D J) λm s' q=>?_
 match m,q with|.error e,q=>let#[H',S,z]:=GC j q;show hx e s' H' S z|.ok (.ret u),q=>let#[v,H',Y,R,ev,q3]:=j.after q;subst ev;show#[R,#[bC.ref<|s.heap.objs.size+1,H',Y,rfl,q3]]|.ok .next,q=>show kc q|.ok .brk,q=>show kc q|.ok .cont,q=>show kc q
end
structure ky where
 xs:Tw
 bK:IH->Prop
open Classical in
def Qr(bK:IH->Prop)(g:G1)(b:S1):Tw->aE->IH->cf|[],U,h=>if bK h then .next U h else .stuck|x::xs,U,h=>if bK h then(match g x U h with|.next W1 h1=>(match b W1 h1 with|.next U2 h2=>Qr bK g b xs U2 h2|.cont U2 h2=>Qr bK g b xs U2 h2|.brk U2 h2=>.next U2 h2|.ret v h2=>.ret v h2|.exc n U2 h2=>(match h2[n]? with|some (.exc _ _)=>.exc n U2 h2|_=>.stuck)|_=>.stuck)|_=>.stuck)else .stuck
abbrev I1:=aE->IH->Res ky
def bP(it:I1)(g:G1)(b:S1):S1:=λU h=>rS U (it U h) λbB h'=>Qr bB.bK g b bB.xs U h'
structure gY(J:aN)(K:W.Frag)(Y:Tv)(H₀:Hp)(bB:It)(I:ky):Prop where
 go:∀(k:Nat)(x:IV)(h:IH)(H:Hp)(Y':Tv),bj Y H₀ Y' H->Rel J K Y' h H->I.bK h->I.xs[k]?=M x ->bB.go k H/\∀y H',bB.zZ k H y H'->Rel J K Y' h H'/\bj Y' H Y' H'/\RV K Y' H' x y
 stop:∀(k:Nat)(h:IH)(H:Hp)(Y':Tv),bj Y H₀ Y' H->Rel J K Y' h H->I.bK h->I.xs.length<=k->bB.stop k H
def Rel.get{K:W.Frag}(R:Rel J K Y h H){i:Nat}(e:h[i]?=M o)(ha:Y[i]?=M a):RO J K Y H a o:=by let#[b,j,r]:=R.at_ i o e;rw[ha]at j;cases j;show r
def GD(J:aN)(X:Cx)(tg:Expr)(V:bf)(Y':Tv)(I:ky)(itv:Zu)(s2:Zy)(H':Hp):Prop:=∃(it:ZD)(fp:Tv)(tn:Nat->bp->Prop)(bB:It),itv=.ref it/\Turn X.prog X.w X.K tg bB fp it tn/\tn 0 s2.heap/\(∀b∈fp,aH X V H' b)/\gY J X.K Y' H' bB I
def jX(J:aN)(X:Cx)(tg iter:Expr)(m:I1):Prop:=∀(V:bf)(s:Zy)(U:L2.St)(H:Hp)(Y:Tv)(bF:aE)(h:IH)(Q:aL)(E:aL),aG J X V Y bF h U H s ->(match m bF h with|.ok I h'=>∀itv s' H' Y',aG J X V Y' bF h' U H' s'->bj Y H Y' H'->GD J X tg V Y' I itv s' H'->Q itv s'|.exc n h'=>∀pl a s' H' Y',aG J X (V++pl) Y' bF h' U H' s'->bj Y H Y' H'->Y'[n]?=M a->E (.ref a) s'|.stuck=>False) ->
  ZB (Z4 X.prog X.w) X.A (bN iter X.env) (λv s1=>ZB (Z4 X.prog X.w) X.A (kX v) Q E s1) E s
section
variable{J:aN}{X:Cx}
theorem oB(h:ZB bA A t Q (λ_ _=>False) s):ZB bA A t Q E s:=d6 h (λ_ _ x=>x) λ_ _ z=>z.elim
theorem aG.pins{V:bf}(N:aG J X (V++pl) Y bF h U H s):aG J X V Y bF h U H s:=#[N.inv.iR,N.rel,N.st]
def Rx(hc:X.calm=Zl)(hst:X.stack=X.env::X.outer)(hf:X.env.frame=M X.env.locals)(D:jX J X tg iter mi)(hg:jE J X tg g)(hb:kx J X body mb)
  (hs:∀x,tj iter X.env x=pure x:=by intro _;rfl):cU J X (.For tg iter body [] pos) (bP mi g mb):=by
 intro V s U H Y bF h Q E N K;calc wpAny_For (D V s U H Y bF h _ E N ?_) hs;unfold bP at K;cases e0:mi bF h with|exc n h'=>rw[e0]at K;show λpl a s' P Y' N' n' q=>K pl a s' U P Y' N' n' q s'<|.inl rfl|stuck=>rw[e0]at K;show K|ok I h'=>
  rw[e0]at K;intro itv s2 H2 W2 N2 n2 R;let#[it,fp,tn,bB,e,T,st2,f2,OK]:=R;subst e;have stat:∀{P:Hp},(∀b∈fp,P b=Z)->∀b∈fp,aH X V P b:=λhn b hb=>#[hn b hb,(f2 b hb).2]
  have K2:=JD.mono (r:=Qr I.bK g mb I.xs bF h') K n2;refine codeAny_forLoop_any (λn s'=>∃k F Pk hk U' P,aG J X V F Pk hk U' P s'/\bj W2 H2 F P/\tn k s'.heap/\(∀b∈fp,P b=Z)/\n=I.xs.length-k/\k<=I.xs.length/\JD J X V F P (Qr I.bK g mb (I.xs.drop k) Pk hk) Q E) ?_ I.xs.length
   #[0,W2,bF,h',U,H2,N2,.refl,st2,λb hb=>(f2 b hb).1,03,ZF _,by simpa using K2]
  rintro n s3 ⟨k,F,Pk,hk,U3,H3,N3,n3,st3,fr3,rfl,hkl,j⟩;by_cases hlt:k<I.xs.length
  ·-- a turn
   have hd:=tG hlt;rw[hd]at j;unfold Qr at j;split at j
   .rename_i hck;let#[go,yl]:=OK.go k I.xs[k] hk H3 F n3 N3.rel hck<|Zh hlt;refine oB<|sN (T.item X rfl rfl rfl hc k V s3 U3 H3 (λ_ _=>False) N3.inv (stat fr3) st3 go) λr s4 ⟨u,hr,h4⟩=>?_
    subst hr;refine oB<|sN h4 λ_ s5 ⟨x,H5,I5,r5,y5,st5,fr5⟩=>?_
    let#[R5,n5,q5]:=yl x H5 y5;have I5':=I5.pinned (stat fr5)<|T.obj _ _ st5;have N5:aG J X (V++QM fp s5.heap) F Pk hk U3 H5 s5:=#[I5',R5,N3.st.mono n5];cases eg:g I.xs[k] Pk hk with
    |next Ug hgg=>
     rw[eg]at j;dsimp only at j;calc oB<|hg _ s5 U3 H5 F Pk hk _ u (λ_ s6=>ZB (Z4 X.prog X.w) X.A (execs body X.env) _ _ s6) (λ_ _=>False) N5 #[x,r5,q5] ?_;rw[eg];intro s6 W6 H6 U6 N6 n6;calc hb _ s6 W6 H6 U6 Ug hgg _ _ N6 ?_;have again:∀{U7:L2.St}{H7:Hp}{O:Zy}{B:aE}{h7:IH}{W:Tv},aG J X (V++QM fp s5.heap) W B h7 U7 H7 O->bj U6 H6 W H7->JD J X V F H3 (Qr I.bK g mb (I.xs.drop<|k+1) B h7) Q E ->
       ∃m,m<I.xs.length-k/\∃k F Pk hk U' P,aG J X V F Pk hk U' P O/\bj W2 H2 F P/\tn k O.heap/\(∀b∈fp,P b=Z)/\m=I.xs.length-k/\k<=I.xs.length/\JD J X V F P (Qr I.bK g mb (I.xs.drop k) Pk hk) Q E:=
      λ{U7 H7 O B h7 W} S n7 K7=>by have nn:=(n5.trans n6).trans n7;calc#[I.xs.length-(k+1),Nat.sub_succ_lt_self _ _ 06,k+1,W,B,h7,U7,H7,S.pins,n3.trans nn,T.keep _ _ _ st5 λb hb o e=>(S.inv.pin (b,o)<|Zt _<|Zt _<|Y8 hb e).1,λb hb=>?_,rfl,hlt,K7.mono nn];let#[o,e,d]:=T.obj _ _ st5 b hb;show(S.inv.pin (b,o)<|Zt _<|Zt _<|Y8 hb e).2.1
     cases eb:mb Ug hgg with
     |next B h7=>rw[eb]at j;show λO U7 H7 W S n7=>again S n7 j
     |cont B h7=>rw[eb]at j;show λO U7 H7 W S n7=>again S n7 j
     |brk B h7=>rw[eb]at j;show λO U7 H7 W S n7=>j O U7 H7 W S.pins<|(n5.trans n6).trans n7
     |ret v h7=>rw[eb]at j;show λu O B U7 H7 W S n7 r=>j u O B U7 H7 W S.pins ((n5.trans n6).trans n7) r
     |exc n B h7=>
      rw[eb]at j;dsimp only at j;cases hj:h7[n]? with|none=>rw[hj]at j;show(j).elim|some ob=>
       cases ob with
       |exc c fs=>
        rw[hj]at j;intro pl a O U7 H7 W S n7 q s8 fl;let#[C,tv,d,fe,hC,ha,ht]:=S.rel.get hj q;have back:∀h8,eK X.env.locals (fu X.stack) a O.heap h8->cameBackBy (Z4 X.prog X.w) X.A X.env E (.ref a) {O with heap:=h8}:=λh8 n8=>
         Gz hf n8 λh9 n9=>j (QM fp s5.heap++pl) a O U7 H7 W (by simp_all) ((n5.trans n6).trans n7) q _<|.inr #[h9,rfl,n9]
        rcases fl with rfl|⟨h8,rfl,n8⟩
        .show AI S.inv hst hf ha ht back
        .show AJ hf n8<|back h8 n8
       |_=>rw[hj]at j;show(j).elim
     |stuck=>rw[eb]at j;show(j).elim
    |_=>rw[eg]at j;show(j).elim
   .show(j).elim
  .have hke:I.xs.drop k=[]:=yY<|ZH hlt;rw[hke]at j;unfold Qr at j;split at j
   .rename_i hck;have stop:=OK.stop k hk H3 F n3 N3.rel hck<|ZH hlt;refine oB<|sN (T.done X rfl rfl rfl hc k V s3 U3 H3 (λ_ _=>False) N3.inv (stat fr3) st3 stop) λr s4 ⟨hr,I4⟩=>?_
    subst hr;show tm<|j s4 U3 H3 F #[I4,N3.rel,N3.st] .refl
   .show(j).elim
noncomputable def iY:IV->IH->Res ky
 |.ref i,h=>match h[i]? with
  |some (.lst xs)=>.ok #[xs,λh'=>h'[i]?=M (.lst xs)] h
  |_=>.stuck
 |.cJ xs,h=>.ok #[xs,λ_=>True] h
 |.tup xs,h=>.ok #[xs,λ_=>True] h
 |_,_=>.stuck
def l5(e:E1):I1:=λU h=>(e U h).bind iY
variable{tg:Expr}
def Ry{i:Nat}(ha:Y[i]?=M a):gY J X.K Y H₀ (ui X.K a) #[xs,λh'=>h'[i]?=M (.lst xs)]:=by
 refine#[λk x h H D hp R j hx=>?_,λk h H D hp R j hx=>?_]
 .let#[O,m,B]:=R.get j<|hp.at ha;let#[v,hv,E]:=B.get hx;calc#[#[O,v,b8.of m,hv],λy F C=>?_];let#[rfl,C]:=C;have:=C O<|b8.of m;rw[hv]at this;cases this;show#[R,.refl,E]
 .let#[O,m,B]:=R.get j<|hp.at ha;show#[O,b8.of m,by rw[B.length];show hx]
def Rz(sa:qL X.K H₀ a O)(B:aC X.K Y H₀ xs O):gY J X.K Y H₀ (ui X.K a) #[xs,λ_=>True]:=by
 refine#[λk x h H C hp R j hx=>?_,λk h H C hp R j hx=>?_]
 .let#[v,hv,D]:=B.get hx;have sq:=(hp.ext.Au sa).sq;calc#[#[O,v,sq,hv],λy E m=>?_];let#[rfl,m]:=m;have:=m O sq;rw[hv]at this;cases this;show#[R,.refl,RV.mono hp _ _ D]
 .show#[O,(hp.ext.Au sa).sq,by rw[B.length];show hx]
def RA(sa:eJ X.K H₀ a O)(B:aC X.K Y H₀ xs O):gY J X.K Y H₀ (Aa X.K a) #[xs,λ_=>True]:=by
 refine#[λk x h H C hp R j hx=>?_,λk h H C hp R j hx=>?_]
 .let#[v,hv,D]:=B.get hx;have sq:=hp.ext.ur sa;calc#[#[O,v,sq,hv],λy E m=>?_];let#[rfl,m]:=m;have:=m O sq;rw[hv]at this;cases this;show#[R,.refl,RV.mono hp _ _ D]
 .show#[O,hp.ext.ur sa,by rw[B.length];show hx]
def AK(hl:ar J X l ml):jX J X tg l (l5 ml):=by
 intro V s U H Y bF h Q E N K;calc hl V s U H Y bF h _ E N ?_;unfold l5 at K;cases I:ml bF h with|exc n W=>rw[I]at K;show K|stuck=>rw[I]at K;show K|ok v W=>
  rw[I]at K;intro u k F R j n1 r1;let#[w,m,q]:=r1;have fresh:∀b∈[k.heap.objs.size],aH X V F b:=λb hb=>by
   have e:b=k.heap.objs.size:=by simpa using hb
   subst e;show j.inv.dz (Zk _)<|j.inv.aA.fresh<|Zk _
  cases v with
  |ref i=>
   let#[a,B,ha]:=q;subst B;cases m;cases D:W[i]? with|none=>simp![Res.bind,iY,D]at K|some o=>cases o with|lst xs=>simp![Res.bind,iY,D]at K;let#[O,B,r1]:=j.at D ha;let#[C,rv,p,S]:=j.inv.list<|b8.of B;calc pe p.isList<|K _ _ F R #[j.inv.kept λb o e=>Zj _ e,j.rel,j.st] n1 ?_;show#[k.heap.objs.size,[k.heap.objs.size],_,ui X.K a,rfl,FH a _,#[_,Zx _ rfl,rfl,rfl],fresh,Ry ha]|_=>simp![Res.bind,iY,D]at K
  |cJ xs=>let#[a,O,B,sa,P]:=q;subst B;cases m;let#[C,rv,p,S]:=j.inv.list sa.sq;calc pe p.isList<|K _ _ F R #[j.inv.kept λb o e=>Zj _ e,j.rel,j.st] n1 ?_;show#[k.heap.objs.size,[k.heap.objs.size],_,ui X.K a,rfl,FH a _,#[_,Zx _ rfl,rfl,rfl],fresh,Rz sa P]
  |tup xs=>let#[a,O,B,sa,P]:=q;subst B;cases m;let#[C,rv,p,S]:=j.inv.tuple sa;calc vp (p)<|K _ _ F R #[j.inv.kept λb o e=>Zj _ e,j.rel,j.st] n1 ?_;show#[k.heap.objs.size,[k.heap.objs.size],_,Aa X.K a,rfl,Ot a _,#[_,Zx _ rfl,rfl,rfl],fresh,RA sa P]
  |_=>simp![Res.bind,iY]at K
noncomputable def aZ (lo D:Int):Tw:=(cO (D-lo).toNat).map λk=>.int<|lo+(k:Nat)
def Qh:Tw->IH->Res ky|[.int j],h=>if -(2^62)<=j/\j<2^62 then .ok #[aZ 0 j,λ_=>True] h else .stuck|_,_=>.stuck
def dM(f:Tw->IH->Res ky)(a:A1):I1:=λU h=>(a U h).bind f
def RC{lo D:Int}:gY J X.K Y H₀ (wi lo (D-lo).toNat) #[aZ lo D,λ_=>True]:=by
 refine#[λk x h H C hp R j hx=>?_,λk h H C hp R j hx=>?_]
 .have m:k<(D-lo).toNat:=by have:=(Zs.mp hx).1;simpa[aZ]using this
  calc#[m,λy E B=>?_];let#[rfl,rfl]:=B;simp![aZ,ZI,tL m]at hx;cases hx;show#[R,.refl,rfl]
 .have:(aZ lo D).length=(D-lo).toNat:=by simp[aZ]
  rw[<-this];show hx
def RD{lo D:Int}(N:aG J X V Y bF h U H s)
  (h1: -(2^62)<=lo)(h2:lo<2^62)(h3: -(2^62)<=D)(F:D<2^62)
  (K:∀j s' H' Y',aG J X V Y' bF h U H' s'->bj Y H Y' H'->GD J X tg V Y' #[aZ lo D,λ_=>True] j s' H'->Q j s'):
  ZB (Z4 X.prog X.w) X.A (kX<|.ref s.heap.objs.size) Q E {s with heap:=s.heap.push {cls:=.type "range",data:=.fields (bV [.int lo t,.int D u,.int 1 v])},toks:=tk}:=by
 have:=Ov (X:=X) (tg:=tg) (E:=E) (R:=λk H'=>k=wi lo (D-lo).toNat/\H'=H) (t:=t) (u:=u) (v:=v) (tk:=tk) N.inv h1 h2 h3 F #[rfl,rfl];refine d6 this (λj s' C=>?_) λ_ _ z=>z
 let#[I,fp,B,k,H',e,m,T,st,f,rfl,rfl]:=C;show K j s' _ Y #[m,N.rel,N.st] .refl #[I,fp,B,_,e,T,st,f,RC]
def RE(hg:Gl X "range")(hm:X.mg "range"=Z)(ha:e9 J X [a] ma)(hs:ZZ [a] X.env=[(Zm,bN a X.env)]:=by rfl):jX J X tg (.Call (.Name "range" p) [a] [] pos) (dM Qh ma):=by
 intro V s U H Y C h Q E N K;calc Call_<|Q2 N.inv hg hm boot_range<|qq ?_ hs rfl;calc ha pos V s U H Y C h _ E N ?_;unfold dM at K;cases m:ma C h with|exc n h'=>rw[m]at K;show K|stuck=>rw[m]at K;show K|ok O h'=>
  rw[m]at K;intro us s1 H1 U1 W n1 r1;let#[xs,rv,D]:=r1;match O,K with
  |[.int j],K=>
   let#[w,r,e1,q,q2]:=D;have e2:r=[]:=q2;subst e1 e2;have S:w=.int j:=q;subst S;cases rv with|cons r rr=>
    cases rr;let#[t,rfl]:=r;simp![Res.bind,Qh]at K;by_cases k: -(2^62)<=j/\j<2^62
    .rw[if_pos k]at K;show call_range_1<|RD W (iM _) (iM _) k.1 k.2 λB P I Y' N' F R=>K B P I Y' N' (n1.trans F) R
    .lia
  |[],K=>show Zf K
  |.aw::_,K=>show Zf K
  |.bl _::_,K=>show Zf K
  |.str _::_,K=>show Zf K
  |.tup _::_,K=>show Zf K
  |.cJ _::_,K=>show Zf K
  |.ref _::_,K=>show Zf K
  |.int _::_::_,K=>show Zf K
end
end L3
namespace L3
open PySem PySem.Spec PySem.Calls PyProof.Rows L2
section
variable{prog:ZW}{w:bo}{A:bM}{E:aL}{s:Zy}{K:W.Frag}{x bE:ZD}{ox:Obj}
open PySem.W PySem.Builtin PySem.Builtin.ObjectAttr PySem.Builtin.Getset_descriptor in
end
structure nu(K:W.Frag)(C:ZD):Prop where
 ga:W.findIn K (.ref C) "__getattribute__"=M (M<|.builtin "BaseException.__getattribute__")
 mb:W.mroIn K C (.type "BaseException")=M Zl
 gn:W.findIn K (.ref C) "__getattr__"=M Z
 ca:W.findIn K (.ref C) "__class__"=M (M<|.builtin "object.__class__")
 mo:W.mroIn K C (.type "object")=M Zl
 hd:W.hasDictIn K C=Zl
end L3
namespace L3
open PySem PySem.Spec PyProof.Rows L2
noncomputable def XX (n:Nat)(O:Tw):aE:=O.map M++fX (n-O.length) Z
noncomputable def cf.fin (r:cf):Res IV:=match r with|.next _ h'=>.ok .aw h'|.ret v h'=>.ok v h'|.exc n _ h'=>(match h'[n]? with|some (.exc _ _)=>.exc n h'|_=>.stuck)|_=>.stuck
noncomputable def AL (n:Nat)(m:S1):Tw->IH->Res IV:=λO h=>(m (XX n O) h).fin
def kz(J:aN)(K:W.Frag)(ps:Tj)(f:Tw->IH->Res IV):Sp:=λO H Q E=>
 O.length=ps.length/\∃Y h ivs,Rel J K Y h H/\aC K Y H ivs O /\ match f ivs h with|.ok v h'=>∀x H' Y',Rel J K Y' h' H'->bj Y H Y' H'->RV K Y' H' v x->Q x H'|.exc n h'=>∀a H' Y',Rel J K Y' h' H'->bj Y H Y' H'->Y'[n]?=M a->E (.ref a) Z H'|.stuck=>False
def aC.start{K:W.Frag}(r:aC K Y H ivs O):kr K Y H (XX N.length ivs) (L2.start N O):=by
 have B:=r.length;calc#[by simp[XX,L2.start,B],λj v e=>?_];unfold XX at e;unfold L2.start;by_cases m:j<ivs.length
 .rw[ZU (by simpa using m),ZI]at e;rw[ZU (by simp;show Zb m<|Zg B.symm),ZI];cases k:ivs[j]? with|none=>rw[k]at e;cases e|some w=>rw[k]at e;cases e;let#[u,C,q]:=r.get k;show#[u,by rw[C];rfl,q]
 .rw[jS (by simpa using m),vF]at e;split at e<;>cases e
theorem AM:∀{l:List α}{i:Nat}{x:α},l[i]?=M x->l.set i x=l|[],_,_,e=>by simp at e|a::l,0,x,e=>by cases e;rfl|a::l,i+1,x,e=>by change a::l.set i x=a::l;rw[AM (l:=l) e]
def wF{K:W.Frag}{i:Nat}(R:Rel J K Y h H)(e:h[i]?=M o)(q:Y[i]?=M a):RO J K Y H a o:=by let#[b,j,r]:=R.at_ i o e;rw[q]at j;cases j;show r
structure qN(K:W.Frag)(x qual:Str)(st:gk)(f:ZD)(fd:j5)(dV:Zu):Prop where
 ex:∃(oc:Zu)(od:Tc)(kV doc pm:Zu)(an:Tc)(cdv ct:Zu)(osl:Wc),fd=W.fnOf x qual (VF st) (Vd st) (Qm st) dV kV doc pm an cdv ct/\K.lookup f=M #[oc,od,.func fd,osl]/\W.codeIn K cdv qual=Zl
 kp:W.keepIn K (.ref f)=Zl
section
variable{P:ZW}{w:bo}{K:W.Frag}{mg:Str->Ta}{base:bp}{J:aN}
def qN.fn{st:gk}(F:qN K x qual st f fd dV)(S:dU N ps<|Qm st)
  (hbody:∀(cdv:Zu)(A:bM)(outer:Tk)(s:Zy)(H:Hp)(E:XK),W.codeIn K cdv qual=Zl->aY k (A.deeper<|og qual (Qm st) s.heap.objs.size f cdv)->kx J (kh (fR P w) P w K mg base N qual (Qm st) f cdv A outer s H E).Oo (Vd st) m)(hn:N.length=n:=by rfl):
  cq P w K mg base (fR P w) (k+1) f fd ps (kz J K ps<|AL n m):=by
 subst hn;let#[oc,od,kV,doc,pm,an,cdv,ct,osl,rfl,lk,hcd]:=F.ex;refine O2 lk hcd S (λO H Q E h=>h.1) λA outer s H O Q E hr hsp=>?_
 let#[hl,Y,h,ivs,R,rv,X]:=hsp;refine#[λbE U H=>∃Y bF h,Rel J K Y h H/\kr K Y H bF U/\match m bF h with|.next Ui' h'=>∀U' B Y',Rel J K Y' h' B->kr K Y' B Ui' U'->bj Y H Y' B->bE.nx U' B|.ret v h'=>∀x B Y',Rel J K Y' h' B->bj Y H Y' B->RV K Y' B v x->bE.rt x B|.exc n _ h'=>(∃c fs,h'[n]?=M (.exc c fs))/\∀a B Y',Rel J K Y' h' B->bj Y H Y' B->Y'[n]?=M a->E (.ref a) Z B|_=>False,λV s' U' B bE I ht=>?_,Y,XX N.length ivs,h,R,rv.start,?_]
 .let#[Y,bF,h,R,rs,hm]:=ht;refine d6 (hbody cdv A outer s H E hcd hr V s' U' B Y bF h (SP _ V bE) _ #[I.br _,R,rs] ?_) (λ_ _ z=>z) λ_ _ z=>z
  cases e:m bF h with
  |next U2 h2=>rw[e]at hm;show λs3 U3 H3 W3 N3 n3=>#[U3,H3,N3.inv.bt,hm U3 H3 W3 N3.rel N3.st n3]
  |ret v h2=>rw[e]at hm;show λu s3 U3i U3 H3 W3 N3 n3 ⟨z,rz,q⟩=>#[z,U3,H3,N3.inv.bt,rz,hm z H3 W3 N3.rel n3 q]
  |exc j U2 h2=>
   rw[e]at hm;let#[#[c,fs,hj],hm]:=hm;intro pl a s3 U3 H3 W3 N3 n3 D s4 fl;have I3:=N3.inv.bt;let#[C,tv,d,fe,hC,ha,ht]:=wF N3.rel hj D;refine Ru I3 fl rfl rfl ha ht λT oT h' p=>?_
   have nl:s.heap.get? s.heap.objs.size=Z:=Heap.get?_none_of_le<|Zk _;let#[R4,n4]:=N3.rel.grow (o:=.cI oT<|.own 0) p.new;have ha4:upd H3 T (.cI oT<|.own 0) a=M (dI a C tv d):=by rw[Jw<|ZV p.ne];show ha
   let#[R5,n5]:=R4.write D ha4 (by rw[ha4];trivial) (o:=dI a C (.ref T) d) (io:=.exc c fs) #[C,.ref T,d,fe.mono p.un.cb,hC,J4,.inr #[T,oT,_,rfl,by rw[Jw p.ne,J4],p.fld.choose_spec]];rw[AM hj]at R5;show#[_,I3.os,I3.bare,Un.tail I3.base p.un nl,p.aA,hm a _ W3 R5 ((n3.trans n4).trans n5) D]
  |_=>rw[e]at hm;show hm.elim
 .unfold AL cf.fin at X;cases e:m (XX N.length ivs) h with
  |next U2 h2=>rw[e]at X;show λU3 H3 W3 R3 _ n3=>X .aw H3 W3 R3 n3 rfl
  |ret v h2=>rw[e]at X;show X
  |exc j U2 h2=>
   rw[e]at X;dsimp only at X;cases q:h2[j]? with|none=>rw[q]at X;show X.elim|some o=>cases o with|exc c fs=>rw[q]at X;show#[#[c,fs,q],X]|_=>rw[q]at X;show X.elim
  |_=>rw[e]at X;show X.elim
end
noncomputable def Res.nx {α:Type}:Res α->Res α|.ok a h=>.ok a h|_=>.stuck
def Jk(f:Tw->IH->Res IV)(bI:Tw)(a:A1):E1:=λU h=>(a U h).bind λO h1=>f (O++bI) h1
def Qx(c:Str)(f:Tw->IH->Res IV)(bI:Tw)(a:A1):E1:=λU h=>(a U h).bind λO h1=>(f (.ref h1.length::(O++bI))<|h1++[.ins c []]).bind λr h2=>match r with|.aw=>.ok (.ref h1.length) h2|_=>.stuck
def wG(m:Str)(disp:Str->Option ((Tw->IH->Res IV)×Tw))(o:E1)(a:A1):E1:=λU h=>(o U h).bind λv h1=>match v with|.ref i=>(match h1[i]? with|some (.ins c fs)=>(match disp c,fs.lookup m with|some (f,bI),Z=>(a U h1).bind λO h2=>f (.ref i::(O++bI)) h2|_,_=>.stuck)|_=>.stuck)|_=>.stuck
section
variable{J:aN}{X:Cx}{k:Nat}{fa C:ZD}{fd:j5}{ps:Tj}{f:Tw->IH->Res IV}{bI:Tw}{ds:Tu}{x m:Str}{p pos apos:Pos}{e o:Expr}{es:Td}{mo:E1}{ma:A1}
def YD(F:cq X.prog X.w X.K X.mg X.base (fR X.prog X.w) k fa fd ps<|kz J X.K ps f)(hr:aY k X.A)(hb:Qj X.K fd ps ds) (hd:∃O,Vals O ds/\∀Y H,aC X.K Y H bI O)(S:us.length+ds.length=ps.length)(N:aG J X V Y bF h U H s)(r:jW X.K Y H xs us)(K:Kont J X RU V Y bF U H (f (xs++bI) h) Q E):ZB (Z4 X.prog X.w) X.A (call (.ref fa) us) Q E s:=by
 let#[O,R,q]:=r;let#[dv,rd,W]:=hd;have hl1:=R.length;have hl2:=rd.length;refine d6 (Rv (Q:=λz m=>∀u j,Inv X V U m j->RelV z u->Q u j) (E:=λv _ m=>∀j,Inv X V U m j->E v j) F hr hb rd N.inv R #[by rw[ZM];lia,Y,h,xs++bI,N.rel,q.append<|W Y H,?_] λ_ j _ B z=>z j B) (λu j ⟨z,m,B,r',k'⟩=>k' u j B r') λ_ _ z=>z
 cases e:f (xs++bI) h with|ok v h'=>rw[e]at K;show λz m P I C qz u j B ru=>K u j m P #[B,I,N.st.mono C] C #[z,ru,qz]|exc n h'=>rw[e]at K;show λa m P I C D j B=>K [] a j m P #[by simpa using B,I,N.st.mono C] C D|stuck=>rw[e]at K;show K
def RF(F:cq X.prog X.w X.K X.mg X.base (fR X.prog X.w) k fa fd ps<|kz J X.K ps f)(hr:aY k X.A)(hg:Gl X x)(hm:X.mg x=M (.ref fa))(hk:W.keepIn X.K (.ref fa)=Zl)(S:Qj X.K fd ps ds)(hd:∃O,Vals O ds/\∀Y H,aC X.K Y H bI O) (ha:e9 J X (e::es) ma)(m:∀U h xs h',ma U h=.ok xs h'->xs.length+ds.length=ps.length)(C:(x==("__debug__":Str))=Zm:=by decide)(he:ZZ (e::es) X.env=(Zm,bN e X.env)::ZZ es X.env:=by rfl)(I:(eF pos<|ZZ es X.env).any (·.1)=Zm:=by rfl):ar J X (.Call (.Name x p) (e::es) [] pos) (Jk f bI ma):=by
 intro V s U H Y D h Q E N K;calc jt<|VJ N.inv hg hm ?_ C;calc W.callWith_K (h₀:=X.base) N.inv.ok.mod.qF hk ?_ he I;have j:=K;unfold Jk at j;calc ha pos V s U H Y D h _ E N ?_;cases B:ma D h with|exc n h'=>rw[B]at j;show j|stuck=>rw[B]at j;show j|ok xs h'=>
  rw[B]at j;intro us s1 H1 U1 R n1 P;have hl:xs.length=us.length:=by let#[O,rv,q]:=P;rw[<-rv.length,q.length]
  show#[R.inv.dQ,YD (us:=us) F hr S hd (by have:=m D h xs h' B;lia) R P<|Kont.mono j n1]
def RG(F:cq X.prog X.w X.K X.mg X.base (fR X.prog X.w) k fa fd ps<|kz J X.K ps f)(C:aY k X.A)(D:Gl X x)(hm:X.mg x=M (.ref fa))(hk:W.keepIn X.K (.ref fa)=Zl)(B:Qj X.K fd ps ds)(hd:∃O,Vals O ds/\∀Y H,aC X.K Y H bI O) (j:ds.length=ps.length)(m:(x==("__debug__":Str))=Zm:=by decide):ar J X (.Call (.Name x p) [] [] pos) (Jk f bI Je):=by intro V s U H Y I h Q E N K;calc jt<|VJ N.inv D hm ?_ m;show W.callWith_K0 N.inv.dQ hk (YD F C B hd (by simpa using j) N .nil K)
def GF(bA:Mk X.K C fa)(F:cq X.prog X.w X.K X.mg X.base (fR X.prog X.w) k fa fd ps<|kz J X.K ps f)(hC:J c=M C)(hr:aY (k+1) X.A)(hb:Qj X.K fd ps ds) (hd:∃O,Vals O ds/\∀Y H,aC X.K Y H bI O)(hlen:us.length+ds.length+1=ps.length)(N:aG J X V Y bF h U H s)(r:jW X.K Y H xs us) (K:Kont J X RU V Y bF U H ((f (.ref h.length::(xs++bI))<|h++[.ins c []]).bind λr h2=>match r with|.aw=>.ok (.ref h.length) h2|_=>.stuck) Q E):ZB (Z4 X.prog X.w) X.A (call (.ref C) us) Q E s:=by
 let#[O,rv,q]:=r;let#[dv,rd,qd]:=hd;have hl1:=rv.length;have hl2:=rd.length;refine d6 (Rw (Q:=λz B=>∀u j,Inv X V U B j->RelV z u->Q u j) (E:=λv _ B=>∀j,Inv X V U B j->E v j) bA F hr hb rd N.inv rv (λx dx hx hdx hne=>#[by rw[ji,ZM];lia,?_]) λ_ j _ I z=>z j I) (λu j ⟨z,B,I,r',k'⟩=>k' u j I r') λ_ _ z=>z
 -- the new instance in the reading's heap
 let#[R1,n1]:=N.rel.grow (o:=.own x) hdx;have S:upd H dx (.own x) x=Z:=by rw[Jw<|ZV hne];show hx
 let#[R2,n2]:=R1.alloc (o:=.ins C dx []) (io:=.ins c []) S #[C,dx,[],hC,J4,rfl];have m:=n1.trans n2;have R:(Y++[x])[h.length]?=M x:=by rw[<-N.rel.len];simp
 calc#[Y++[x],h++[.ins c []],.ref h.length::(xs++bI),R2,#[_,_,rfl,#[x,rfl,R],(aC.mono m _ _ q).append<|qd _ _],?_];cases e:f (.ref h.length::(xs++bI)) (h++[.ins c []])with
 |ok v h'=>rw[e]at K;intro z B Y' W P qz;cases v with|aw=>have ez:=qz;subst ez;show#[rfl,λu j I ru=>K u j B Y' #[I,W,N.st.mono<|m.trans P] (m.trans P) #[.ref x,ru,x,rfl,P.at R]]|_=>show Zf K
 |exc n h'=>rw[e]at K;show λa B Y' W P D j I=>K [] a j B Y' #[by simpa using I,W,N.st.mono<|m.trans P] (m.trans P) D
 |stuck=>rw[e]at K;show Zf K
def RJ(bA:Mk X.K C fa)(F:cq X.prog X.w X.K X.mg X.base (fR X.prog X.w) k fa fd ps<|kz J X.K ps f)(hC:J c=M C)(hr:aY (k+1) X.A)(hg:Gl X x)(hm:X.mg x=M (.ref C))(hb:Qj X.K fd ps ds)(hd:∃O,Vals O ds/\∀Y H,aC X.K Y H bI O) (ha:e9 J X (e::es) ma)(m:∀U h xs h',ma U h=.ok xs h'->xs.length+ds.length+1=ps.length)(D:(x==("__debug__":Str))=Zm:=by decide)(he:ZZ (e::es) X.env=(Zm,bN e X.env)::ZZ es X.env:=by rfl)(P:(eF pos<|ZZ es X.env).any (·.1)=Zm:=by rfl):ar J X (.Call (.Name x p) (e::es) [] pos) (Qx c f bI ma):=by
 intro V s U H Y I h Q E N K;calc jt<|VJ N.inv hg hm ?_ D;calc W.callWith_K (h₀:=X.base) N.inv.ok.mod.qF bA.kp ?_ he P;have j:=K;unfold Qx at j;calc ha pos V s U H Y I h _ E N ?_;cases B:ma I h with|exc n h'=>rw[B]at j;show j|stuck=>rw[B]at j;show j|ok xs h'=>
  rw[B]at j;intro us s1 H1 U1 R n1 S;have hl:xs.length=us.length:=by let#[O,rv,q]:=S;rw[<-rv.length,q.length]
  show#[R.inv.dQ,GF (us:=us) bA F hC hr hb hd (by have:=m I h xs h' B;lia) R S<|Kont.mono j n1]
def RK(bA:Mk X.K C fa)(F:cq X.prog X.w X.K X.mg X.base (fR X.prog X.w) k fa fd ps<|kz J X.K ps f)(D:J c=M C)(P:aY (k+1) X.A)(I:Gl X x)(hm:X.mg x=M (.ref C))(B:Qj X.K fd ps ds)(hd:∃O,Vals O ds/\∀Y H,aC X.K Y H bI O) (j:ds.length+1=ps.length)(m:(x==("__debug__":Str))=Zm:=by decide):ar J X (.Call (.Name x p) [] [] pos) (Qx c f bI Je):=by intro V s U H Y R h Q E N K;calc jt<|VJ N.inv I hm ?_ m;show W.callWith_K0 N.inv.dQ bA.kp (GF bA F D P B hd (by simpa using j) N .nil K)
def AN(J:aN)(X:Cx)(m:Str)(n:Nat)(disp:Str->Option ((Tw->IH->Res IV)×Tw)):Prop:=∀c f bI,disp c=M (f,bI)->∃(C fa:ZD)(fd:j5)(k:Nat)(ps:Tj)(ds:Tu),J c=M C/\nk X.K C/\Meth X.K C m fa/\cq X.prog X.w X.K X.mg X.base (fR X.prog X.w) k fa fd ps (kz J X.K ps f)/\aY k X.A/\Qj X.K fd ps ds/\(∃O,Vals O ds/\∀Y H,aC X.K Y H bI O)/\n+ds.length+1=ps.length
def RL(ho:ar J X o mo)(hd:AN J X m n disp)(ha:e9 J X (e::es) ma)(P:∀U h xs h',ma U h=.ok xs h'->xs.length=n) (hst:ZZ (e::es) X.env=(Zm,bN e X.env)::ZZ es X.env:=by rfl)(hpl:(eF pos<|ZZ es X.env).any (·.1)=Zm:=by rfl) (ht:bN (.Call (.Attribute o m apos) (e::es) [] pos) X.env=(do
   let ov<-bN o X.env
   sd apos.atName
   let (f,first)<-lH [ov] (rY ov m pl)
   callWith pos f first (eF pos<|ZZ (e::es) X.env) (qg pos<|qe [] X.env)):=by rfl):
  ar J X (.Call (.Attribute o m apos) (e::es) [] pos) (wG m disp mo ma):=by
 intro V s U H Y bF h Q E N K;calc W.methodCall_KW (ho.run N K λv S u s1 H1 U1 N1 n1 r1 j=>?_) ht;cases v with
 |ref i=>
  let#[w,rw',a,e1,D]:=r1;subst e1;cases rw';dsimp only at j;cases hh:S[i]? with|none=>rw[hh]at j;show Zf j|some ob=>
   cases ob with
   |ins c fs=>
    rw[hh]at j;dsimp only at j;cases B:disp c with|none=>rw[B]at j;show Zf j|some fd1=>
     let#[f,bI]:=fd1;cases hl:fs.lookup m with|some z=>rw[B,hl]at j;show Zf j|none=>
      rw[B,hl]at j;dsimp only at j;let#[C,fa,fd,k,ps,ds,hC,cl,hm,F,hr,hb,hdv,hn]:=hd c f bI B;let#[C',dx,O,I,hH,rp]:=N1.at hh D;rw[hC]at I;cases I;calc FT N1.inv hH cl hm ((b9.lookup rp).2 hl) ?_;calc W.callWith_K (first:=[.ref a]) (h₀:=X.base) N1.inv.ok.mod.qF hm.kp ?_ hst hpl;calc ha pos V s1 U H1 U1 bF S _ E N1 ?_;cases R:ma bF S with|exc n h'=>rw[R]at j;show j|stuck=>rw[R]at j;show j|ok xs h'=>
       rw[R]at j;intro us s2 H2 W2 N2 n2 r2;have hl:xs.length=us.length:=by let#[O,rv,q]:=r2;rw[<-rv.length,q.length]
       have hl2:=P bF S xs h' R;calc#[N2.inv.dQ,YD (us:=.ref a::us) (xs:=.ref i::xs) F hr hb hdv (by rw[ji];lia) N2 (.cons #[.ref a,rfl,a,rfl,n2.at D] r2) ?_];show Kont.mono j n2
   |_=>rw[hh]at j;show Zf j
 |_=>show Zf j
def RM(ho:ar J X o mo)(hd:AN J X m 0 disp) (ht:bN (.Call (.Attribute o m apos) [] [] pos) X.env=(do
   let ov<-bN o X.env
   sd apos.atName
   let (f,first)<-lH [ov] (rY ov m pl)
   callWith pos f first (eF pos<|ZZ [] X.env) (qg pos<|qe [] X.env)):=by rfl):
  ar J X (.Call (.Attribute o m apos) [] [] pos) (wG m disp mo Je):=by
 intro V s U H Y bF h Q E N K;calc W.methodCall_KW (pl:=pl) (ho.run N K λv h1 u s1 H1 U1 P n1 r1 j=>?_) ht;cases v with
 |ref i=>
  let#[w,rw',a,e1,D]:=r1;subst e1;cases rw';dsimp only at j;cases R:h1[i]? with|none=>rw[R]at j;show Zf j|some ob=>
   cases ob with
   |ins c fs=>
    rw[R]at j;dsimp only at j;cases B:disp c with|none=>rw[B]at j;show Zf j|some fd1=>let#[f,bI]:=fd1;cases hl:fs.lookup m with|some z=>rw[B,hl]at j;show Zf j|none=>rw[B,hl]at j;let#[C,fa,fd,k,ps,ds,hC,cl,hm,F,hr,hb,S,hn]:=hd c f bI B;let#[C',dx,O,I,hH,rp]:=P.at R D;rw[hC]at I;cases I;calc FT P.inv hH cl hm ((b9.lookup rp).2 hl) ?_;show W.callWith_K0 (first:=[.ref a]) P.inv.dQ hm.kp (YD (us:=[.ref a]) (xs:=[.ref i]) F hr hb S (by rw[ji,ze];(rw[mQ];show Z7 (Zg hn)<|Zg hn.symm)) P (.cons #[.ref a,rfl,a,rfl,D] .nil) j)
   |_=>rw[R]at j;show Zf j
 |_=>show Zf j
def Jm(f:Str)(o:E1):E1:=λU h=>(o U h).bind λv h1=>match v with|.ref i=>(match h1[i]? with|some (.ins _ fs)=>(match fs.lookup f with|some x=>.ok x h1|none=>.stuck)|_=>.stuck)|_=>.stuck
def Yo(J:aN)(K:W.Frag)(f:Str):Prop:=∀c C,J c=M C->nk K C/\QZ K C f
def RN(ho:ar J X o mo)(P:Yo J X.K fl)(I:tp o fl X.env (bN o X.env)=bN o X.env:=by rfl):ar J X (.Attribute o fl pos) (Jm fl mo):=by
 intro V s U H Y bF h Q E N K;refine OX I<|ho.run N K λv S u s1 H1 U1 k n1 r1 j=>?_
 cases v with
 |ref i=>
  let#[w,B,a,e1,D]:=r1;subst e1;cases B;dsimp only at j;cases m:S[i]? with|none=>rw[m]at j;show(j).elim|some ob=>
   cases ob with
   |ins c fs=>rw[m]at j;dsimp only at j;cases F:fs.lookup fl with|none=>rw[F]at j;show(j).elim|some z=>rw[F]at j;let#[C,dx,O,hC,hH,rp]:=k.at m D;let#[cl,na]:=P c C hC;let#[y,hy,q]:=(b9.lookup rp).1 z F;show FR k.inv hH cl na hy λu' R I2 W=>j u' R H1 U1 #[I2,k.rel,k.st] .refl #[y,W,q]
   |_=>rw[m]at j;show(j).elim
 |_=>show(j).elim
noncomputable def bG (f:Str)(v:IV):Wn->Wn|[]=>[(f,v)]|(g,x)::r=>if g=f then(g,v)::r else(g,x)::bG f v r
theorem b9.put{K:W.Frag}(q:RV K Y H v y):∀{fs:Wn}{O:Wt},b9 K Y H fs O->b9 K Y H (bG fl v fs) (cT fl y O)
 |[],_,h=>by have e:=h;subst e;show#[y,[],rfl,q,rfl]
 |(g,x)::r,_,h=>by
  let#[w,k,e,qx,t]:=h;subst e;change b9 K Y H (if g=fl then(g,v)::r else(g,x)::bG fl v r) (if g=fl then(g,y)::k else(g,w)::cT fl y k);by_cases j:g=fl
  .rw[if_pos j,if_pos j];show#[y,k,rfl,q,t]
  .rw[if_neg j,if_neg j];show#[w,_,rfl,qx,b9.put q t]
def JL(f:Str)(o e:E1):S1:=λU h=>rS U (e U h) λv h1=>rS U (o U h1) λov h2=>match ov with
 |.ref i=>(match h2[i]? with
  |some (.ins c fs)=>if fs.length<1000 then .next U (h2.set i<|.ins c<|bG f v fs)else .stuck
  |_=>.stuck)
 |_=>.stuck
def RP(ho:ar J X o mo)(hv:ar J X value mv)(hf:Yo J X.K fl)(hs:qf value (M<|.Attribute o fl pos') pos.line X.env=pure Zm:=by rfl):cU J X (.Assign [.Attribute o fl pos'] value pos) (JL fl mo mv):=by
 intro V s U H Y bF h Q E N K;calc plainObj_wpAny_Assign_Attribute (dA hv N K λv h1 u s1 H1 U1 N1 n1 r1 K1=>dA ho N1 K1 λov h2 w s2 R I B n2 r2 j=>?_) hs;cases ov with
 |ref i=>
  let#[w,P,a,e1,D]:=r2;subst e1;cases P;dsimp only at j;cases F:h2[i]? with|none=>rw[F]at j;show(j).elim|some ob=>
   cases ob with
   |ins c fs=>
    rw[F]at j;dsimp only at j;split at j
    .rename_i hz;let#[C,W,O,hC,k,S]:=B.at F D;let#[cl,na]:=hf c C hC;let#[y,ry,q]:=r1;refine FU B.inv k cl na (by rw[S.length];show hz) ry λs3 I3=>?_
     have m:bj I R I (upd R a<|.ins C W<|cT fl y O):=#[#[[],03],Ext.cG k<|by rw[k];show fj];let#[R3,_]:=B.rel.write (io:=.ins c<|bG fl v fs) D k (by rw[k];show fj) #[C,W,_,hC,J4,b9.put (RV.mono (n2.trans m) _ _ q)<|b9.mono m _ _ S];show j s3 U _ I #[I3,R3,B.st.mono m] m
    .show(j).elim
   |_=>rw[F]at j;show(j).elim
 |_=>show(j).elim
end
section
variable{J:aN}{X:Cx}{a b c:Expr}{ma mb mc:E1}{pos:Pos}
def Jh:IV->IV->IH->Res IV
 |.ref i,.int k,h=>match h[i]? with
  |some (.lst xs)=>(match bq xs k with
   |some v=>.ok v h
   |none=>.stuck)
  |_=>.stuck
 |.cJ xs,.int k,h=>match bq xs k with
  |some v=>.ok v h
  |none=>.stuck
 |.tup xs,.int k,h=>match bq xs k with
  |some v=>.ok v h
  |none=>.stuck
 |.str x,.int k,h=>if x.length<=sizeLine then(match bq x.cps.toList k with
  |some c=>.ok (.str ⟨#[c]⟩) h
  |none=>.stuck)else .stuck
 |_,_,_=>.stuck
def wH{K:W.Frag}(r:aC K Y H xs O)(e:bq xs k=M v):∃u,bq O k=M u/\RV K Y H v u:=by unfold bq at e ⊢;rw[r.length];cases q:ki xs.length k with|none=>rw[q]at e;cases e|some j=>rw[q]at e;show r.get e
def wI(J:aN)(X:Cx)(g:IV->IV->IH->Res IV):Prop:=∀(value slice:Expr)(V:bf)(s:Zy)(U:L2.St)(H:Hp)(Y:Tv)(bF:aE)(h:IH)(x y:IV)(v u:Zu)(Q:aL)(E:aL),aG J X V Y bF h U H s->RU X.K Y H x v->RU X.K Y H y u ->Kont J X RU V Y bF U H (g x y h) Q E->vy slice Zm v u=operate [v,u] (pE v u)->ZB (Z4 X.prog X.w) X.A (zw value slice v u) Q E s
theorem wJ(p:wu (X.br E) r)(I:Inv X V U H s)(B:RelV x v)(m:RelV y u) (k:r x y H λz H'=>∀u s',Inv X V U H' s'->RelV z u->Q u s')(hs:vy slice Zm v u=operate [v,u] (pE v u)):ZB (Z4 X.prog X.w) X.A (zw value slice v u) Q E s:=d6 (p value slice V s U H x y v u _ (I.br E) B m k hs) (λu s' ⟨_,_,j,r,q⟩=>q u s' j.bt r) λ_ _ z=>z
def AO:wI J X Jh:=by
 intro S R V s U H Y bF h x y v u Q E N C B K P;let#[xv,C,qx]:=C;let#[yv,B,qy]:=B;cases y with
 |int k=>
  have e2:=qy;subst e2;cases x with
  |ref i=>
   let#[a,m,ha]:=qx;subst m;dsimp only[Jh]at K;cases D:h[i]? with|none=>rw[D]at K;show(K).elim|some ob=>
    rw[D]at K;cases ob with
    |lst xs=>dsimp only at K;cases j:bq xs k with|none=>rw[j]at K;show(K).elim|some z=>rw[j]at K;let#[O,m,r1]:=N.at D ha;let#[w,F,I]:=wH r1 j;show wJ (F4) N.inv C B #[a,O,k,w,rfl,rfl,b8.of m,F,aJ N K I] P
    |_=>show(K).elim
  |cJ xs=>let#[a,O,m,sa,W]:=qx;subst m;dsimp only[Jh]at K;cases j:bq xs k with|none=>rw[j]at K;show(K).elim|some z=>rw[j]at K;let#[w,F,I]:=wH W j;show wJ (F4) N.inv C B #[a,O,k,w,rfl,rfl,sa.sq,F,aJ N K I] P
  |tup xs=>let#[a,O,m,sa,W]:=qx;subst m;dsimp only[Jh]at K;cases j:bq xs k with|none=>rw[j]at K;show(K).elim|some z=>rw[j]at K;let#[w,F,I]:=wH W j;show wJ (O6) N.inv C B #[a,O,k,w,rfl,rfl,sa,F,aJ N K I] P
  |str x=>
   have m:=qx;subst m;dsimp only[Jh]at K;split at K
   .rename_i hz;cases j:bq x.cps.toList k with|none=>rw[j]at K;show(K).elim|some z=>rw[j]at K;show wJ (O7) N.inv C B #[x,k,z,rfl,rfl,hz,j,aJ N K rfl] P
   .show(K).elim
  |_=>show(K).elim
 |_=>cases x<;>show(K).elim
theorem AP(O:wI J X g)(ha:ar J X a ma)(j:ar J X b mb)(hs:F3 b:=by intro _ _;rfl):ar J X (.Subscript a b pos) (Jc g ma mb):=λV s U H Y P h Q E N K=>
 Subscript_ (ha.run N K λx h1 u s1 H1 U1 S n1 F W=>j.run S W λy R w m D C k n2 B I=>O a b V m U D C P R x y u w Q E k (F.mono n2) B I<|hs _ _)
abbrev O1:=aE->IH->Res (Wy)
def RQ:ow (Wy) Zu:=λ_ _ _ o u=>ql u o
def ux(J:aN)(X:Cx)(e:Wu)(m:O1):Prop:=PX J X RQ (evalPart e X.env) m
noncomputable def V3:O1:=λ_ h=>.ok Z h
def V4(e:E1):O1:=λU h=>(e U h).bind λv h1=>match v with|.int i=>.ok (M i) h1|_=>.stuck
def RS:ux J X Z V3:=by intro V s U H Y j h Q E N K;show Zp<|K _ s H Y N .refl .none
def RT(ha:ar J X a ma):ux J X (M a) (V4 ma):=by
 intro V s U H Y I h Q E N K;refine ha.run N K λx O u C F B D n1 m k=>?_
 cases x with|int i=>let#[w,j,q]:=m;have e:=q;subst e;let#[t,rfl]:=j;show k _ C F B D .refl<|.int i t|_=>show(k).elim
def g0{α:Type}(xs:List α)(lo D:Wy):List α:=(xs.drop<|HT.fZ xs.length 0 lo).take<|HT.fZ xs.length xs.length D-HT.fZ xs.length 0 lo
def l7:IV->Wy->Wy->IH->Res IV
 |.ref i,lo,D,h=>match h[i]? with
  |some (.lst xs)=>.ok (.ref h.length)<|h++[.lst<|g0 xs lo D]
  |_=>.stuck
 |.cJ xs,lo,D,h=>.ok (.ref h.length)<|h++[.lst<|g0 xs lo D]
 |_,_,_,_=>.stuck
def aC.cut{K:W.Frag}(r:aC K Y H xs O)(lo D):aC K Y H (g0 xs lo D) (lW O lo D):=by unfold g0 lW;rw[r.length];show(r.drop _).take _
def lu(f:IV->Wy->Wy->IH->Res IV)(e:E1)(lo D:O1):E1:=λU h=>(e U h).bind λx h1=>(lo U h1).bind λl h2=>(D U h2).bind λu h3=>f x l u h3
def wK(J:aN)(X:Cx)(g:IV->Wy->Wy->IH->Res IV):Prop:=∀(V:bf)(s:Zy)(U:L2.St)(H:Hp)(Y:Tv)(bF:aE)(h:IH)(x:IV)(v vl vu:Zu)(lo D:Wy)(sl:ZD)(Q:aL)(E:aL),aG J X V Y bF h U H s->RU X.K Y H x v->s.heap.IsSliceOf sl vl vu .none->ql vl lo->ql vu D ->Kont J X RU V Y bF U H (g x lo D h) Q E->∃T id,vA (.type T) "__getitem__"=pure (M<|.builtin id)/\s.TypeIs v T/\ZB (Z4 X.prog X.w) X.A (pE v<|.ref sl) Q E s
def GG{lo D:Wy}(p:F0 (X.br E) r)(I:Inv X V U H s)(J:RelV x v) (hs:s.heap.IsSliceOf sl vl vu .none)(pl:ql vl lo)(C:ql vu D)(k:r x lo D H λz H'=>∀u s',Inv X V U H' s'->RelV z u->Q u s'):∃T id,vA (.type T) "__getitem__"=pure (M<|.builtin id)/\s.TypeIs v T/\ZB (Z4 X.prog X.w) X.A (pE v<|.ref sl) Q E s:=by let#[T,id,m,F,B]:=p V s U H x v vl vu lo D sl _ (I.br E) J hs pl C k;show#[T,id,m,F,d6 B (λu s' ⟨_,_,j,r,q⟩=>q u s' j.bt r) λ_ _ z=>z]
def RW{lo D:Wu}(hr:wK J X g)(he:ar J X a ma)(hl:ux J X lo ml)(hu:ux J X D mh):ar J X (.Subscript a (.Slice lo D Z p2) pos) (lu g ma ml mh):=by
 intro V s U H Y bF h Q E N K;refine Subscript_<|he.run N K λx h1 v s1 H1 U1 N1 n1 r1 K1=>?_
 refine wpAny_Slice<|PX.run hl N1 K1 λl h2 B s2 H2 W2 N2 n2 pl P=>PX.run hu N2 P λu I m j C W k S O K3=>?_
 calc Zp ?_;have R:Inv X V U C {j with heap:=j.heap.push {cls:=.type "slice",data:=.fields (bV [B,m,.none])} }:=k.inv.kept λb ob q=>Zj _ q
 let#[T,id,F,ht,hg]:=hr V {j with heap:=j.heap.push {cls:=.type "slice",data:=.fields (bV [B,m,.none])} } U C W bF I x v B m l u j.heap.objs.size Q E #[R,k.rel,k.st] ((r1.mono n2).mono S) (Heap.IsSliceOf.new ..) pl O K3;show tail_any ht F hg<|rfl
def aR(f:Tw->IH->Res IV)(a:A1):E1:=λU h=>(a U h).bind f
variable{es:Td}{mr:A1}{x:Str}{p:Pos}{id T:String}{g:Tw->IH->Res IV}
theorem Vh(F:Qq J X (.builtin id) g)(C:Gl X x)(hm:X.mg x=Z)(hv:kT x=M (.builtin id))(ha:e9 J X (a::es) mr)(hn:x≠"__name__":=by decide)(j:(x==("__debug__":Str))=Zm:=by decide) (R:ZZ (a::es) X.env=(Zm,bN a X.env)::ZZ es X.env:=by rfl)(k:(eF pos<|ZZ es X.env).any (·.1)=Zm:=by rfl):ar J X (.Call (.Name x p) (a::es) [] pos) (aR g mr):=λV s U H Y D h Q E N K=>
 jt (Q2 N.inv C hm hv (vR ((ha pos).run N K λxs I m P W O S n1 B K1=>F V P U W O D I xs m Q E S B K1) R k) hn j)
theorem AQ(F:Qq J X (.type T) g)(C:Gl X x)(hm:X.mg x=Z)(hv:kT x=M (.type T))(ha:e9 J X (a::es) mr)(hn:x≠"__name__":=by decide)(j:(x==("__debug__":Str))=Zm:=by decide) (R:ZZ (a::es) X.env=(Zm,bN a X.env)::ZZ es X.env:=by rfl)(k:(eF pos<|ZZ es X.env).any (·.1)=Zm:=by rfl):ar J X (.Call (.Name x p) (a::es) [] pos) (aR g mr):=λV s U H Y D h Q E N K=>
 jt (Q2 N.inv C hm hv (qq ((ha pos).run N K λxs I m P W O S n1 B K1=>F V P U W O D I xs m Q E S B K1) R k) hn j)
def aP(f:IV->IH->Res IV):Tw->IH->Res IV|[x],h=>f x h|_,_=>.stuck
def l8(f:IV->IV->IH->Res IV):Tw->IH->Res IV|[x,y],h=>f x y h|_,_=>.stuck
def aC.bS{K:W.Frag}{x:IV}(r:aC K Y H [x] O):∃v,O=[v]/\RV K Y H x v:=by let#[v,m,e,q,j]:=r;have k:=j;subst k;show#[v,e,q]
def aC.jF{K:W.Frag}{x y:IV}(r:aC K Y H [x,y] O):∃v w,O=[v,w]/\RV K Y H x v/\RV K Y H y w:=by let#[v,B,e,q,j]:=r;let#[w,m,k]:=j.bS;subst m;show#[v,w,e,q,k]
def Vc(m:∀(V:bf)(s:Zy)(U:L2.St)(H:Hp)(Y:Tv)(bF:aE)(h:IH)(x:IV)(j:bC)(u:Zu)(Q E:aL),aG J X V Y bF h U H s->RelV j u->RV X.K Y H x j ->Kont J X RU V Y bF U H (f x h) Q E->ZB (Z4 X.prog X.w) X.A (call fv [u]) Q E s):Qq J X fv (aP f):=by intro V s U H Y bF h xs C Q E N r K;let#[O,k,q]:=r;match xs,K with|[x],K=>let#[v,e,qx]:=q.bS;subst e;let#[u,rfl,B]:=Q3 k;show m V s U H Y bF h x v u Q E N B qx K|[],K=>show(K).elim|_::_::_,K=>show(K).elim
noncomputable def aT:IV->IH->Res IV
 |.str x,h=>if x.length<=sizeLine then .ok (.int x.length) h else .stuck
 |.tup xs,h=>.ok (.int xs.length) h
 |.cJ xs,h=>.ok (.int xs.length) h
 |.ref i,h=>match h[i]? with
  |some (.lst xs)=>.ok (.int xs.length) h
  |_=>.stuck
 |_,_=>.stuck
theorem RX:Qq J X (.builtin "len") (aP aT):=Vc λV s U H Y F h x I u Q E N k qx K=>by
 cases x with
 |str y=>
  have e:=qx;subst e;dsimp only[aT]at K;split at K
  .rename_i C;show QO (wm) N.inv (.cons k .nil) #[_,_,rfl,#[C,rfl],aJ N K rfl]
  .show(K).elim
 |tup xs=>let#[a,O,j,sa,m]:=qx;subst j;show QO (wm) N.inv (.cons k .nil) #[_,xs.length,rfl,.inr #[O,sa,m.length.symm],aJ N K rfl]
 |cJ xs=>let#[a,O,j,sa,m]:=qx;subst j;show QO (wm) N.inv (.cons k .nil) #[_,xs.length,rfl,.inl #[O,sa.sq,m.length.symm],aJ N K rfl]
 |ref i=>
  let#[a,j,ha]:=qx;subst j;dsimp only[aT]at K;cases D:h[i]? with|none=>rw[D]at K;show(K).elim|some ob=>rw[D]at K;cases ob with|lst xs=>let#[O,j,B]:=N.at D ha;show QO (wm) N.inv (.cons k .nil) #[_,xs.length,rfl,.inl #[O,b8.of j,B.length.symm],aJ N K rfl]|_=>show(K).elim
 |_=>show(K).elim
end
def oC(n:Nat)(m:A1):Prop:=∀U h xs h',m U h=.ok xs h'->xs.length=n
theorem RY:oC 0 Je:=λ_ _ xs _ e=>by cases e;rfl
theorem RZ(C:oC n r):oC (n+1) (Jb e r):=λU h xs E q=>by
 unfold Jb at q;cases m:e U h with
 |ok x j=>rw[m]at q;change (r U j).bind (λxs B=>.ok (x::xs) B)=_ at q;cases k:r U j with|ok D B=>rw[k]at q;cases q;rw[ji,C U j D _ k]|exc n B=>rw[k]at q;cases q|stuck=>rw[k]at q;cases q
 |exc n j=>rw[m]at q;cases q
 |stuck=>rw[m]at q;cases q
theorem GH{K:W.Frag}:∃O,Vals O ([]:Tu)/\∀Y H,aC K Y H [] O:=#[[],.nil,λ_ _=>rfl]
def XW(K:W.Frag)(x:Str)(f:Tw->IH->Res IV):Sp:=λO H Q E=>∀J,kz J K [x] f O H Q E
theorem R0{K:W.Frag}(F:cq P w K mg base (fR P w) k fa fd [x]<|kz J K [x] f):cq P w K mg base (fR P w) k fa fd [x] (XW K x f):=F.imp λ_ _ _ _ h=>h J
noncomputable def toD (h:IH):Nat->IV->Option j7
 |0=>λv=>match v with
  |.aw=>M .none
  |.bl b=>M<|.bool b
  |.int i=>M<|.int i
  |.str x=>M<|.str x
  |_=>Z
 |n+1=>λv=>match v with
  |.aw=>M .none
  |.bl b=>M<|.bool b
  |.int i=>M<|.int i
  |.str x=>M<|.str x
  |.tup xs=>(xs.mapM<|toD h n).map .tuple
  |.cJ xs=>(xs.mapM<|toD h n).map .list
  |.ref i=>match h[i]? with
   |some (.lst xs)=>(xs.mapM<|toD h n).map .list
   |_=>Z
section
variable{J:aN}{X:Cx}
theorem wM(N:aG J X V Y bF h U H s) (B:∀(v:IV)(d:j7)(x:bC)(u:Zu),toD h n v=M d->RV X.K Y H v x->RelV x u->∃as,Reads s.heap u d as):∀(xs:Tw)(ds:List j7)(O:Uc)(us:Tu),xs.mapM (toD h n)=M ds->aC X.K Y H xs O->Vals O us->∃as,ReadsAll s.heap us ds as
 |[],ds,O,us,e,q,r=>by have j:=q;subst j;cases r;simp at e;subst e;show#[_,.nil]
 |x::xs,ds,O,us,e,q,r=>by
  let#[v,F,j,C,P]:=q;subst j;cases r with
  |cons R E=>
   rw[nX]at e;cases m:toD h n x with
   |none=>rw[m]at e;cases e
   |some d=>
    rw[m]at e;cases k:xs.mapM (toD h n)with
    |none=>rw[k]at e;cases e
    |some I=>rw[k]at e;cases e;let#[as,D]:=B x d v _ m C R;let#[bs,Q]:=wM N B xs I F _ k P E;show#[_,.cons D Q]
def wN(N:aG J X V Y bF h U H s):∀(n:Nat)(v:IV)(d:j7)(x:bC)(u:Zu),toD h n v=M d->RV X.K Y H v x->RelV x u->∃as,Reads s.heap u d as:=by
 have j:∀(v:IV)(d:j7)(x:bC)(u:Zu),toD h 0 v=M d->RV X.K Y H v x->RelV x u->∃as,Reads s.heap u d as:=by
  intro v d x u e q r;cases v with
  |aw=>cases e;have k:x=.aw:=q;subst k;cases r;show#[_,.none]
  |bl b=>cases e;have k:x=.bl b:=q;subst k;cases r;show#[_,.bool b]
  |int i=>cases e;have k:x=.int i:=q;subst k;let#[t,rfl]:=r;show#[_,.int i t]
  |str z=>cases e;have k:x=.str z:=q;subst k;let#[t,rfl]:=r;show#[_,.str z t]
  |_=>cases e
 intro n;induction n with
 |zero=>show j
 |succ n S=>
  intro v d x u e q r;cases v with
  |aw=>show j .aw d x u e q r
  |bl b=>show j (.bl b) d x u e q r
  |int i=>show j (.int i) d x u e q r
  |str z=>show j (.str z) d x u e q r
  |tup xs=>let#[a,O,k,sa,R]:=q;subst k;cases r;let#[ds,I,rfl]:=ZL.mp<|e;let#[B,P,#[o,Q,E,m,hd],W]:=N.inv.tuple sa;let#[as,F]:=wM N S xs ds O B I R P;show#[_,.tuple Q E hd F]
  |cJ xs=>let#[a,O,k,sa,R]:=q;subst k;cases r;let#[ds,I,rfl]:=ZL.mp<|e;let#[B,P,#[o,m,Q,E,_,hd],W]:=N.inv.list sa.sq;let#[as,F]:=wM N S xs ds O B I R P;show#[_,.list Q E hd F]
  |ref i=>
   let#[a,k,ha]:=q;subst k;cases r;have C:(match h[i]? with|some (.lst xs)=>(xs.mapM<|toD h n).map vY|_=>Z)=M d:=e;cases D:h[i]? with
   |none=>rw[D]at C;cases C
   |some ob=>
    rw[D]at C;cases ob with
    |lst xs=>let#[ds,I,rfl]:=ZL.mp C;let#[O,k,r1]:=N.at D ha;let#[B,P,#[o,m,Q,E,_,hd],W]:=N.inv.list<|b8.of k;let#[as,F]:=wM N S xs ds O B I r1 P;show#[_,.list Q E hd F]
    |_=>cases C
theorem wO(B:∀v d,f v=M d->d.depth<=n):∀(xs:Tw)(ds:List j7),xs.mapM f=M ds->PyData.depthAll ds<=n
 |[],ds,e=>by simp at e;subst e;show ZF _
 |x::xs,ds,e=>by
  rw[nX]at e;cases k:f x with
  |none=>rw[k]at e;cases e
  |some d=>
   rw[k]at e;cases j:xs.mapM f with
   |none=>rw[j]at e;cases e
   |some m=>rw[j]at e;cases e;have D:=B x d k;have C:=wO B xs m j;change max d.depth (PyData.depthAll m)<=n;show Nat.max_le.mpr #[D,C]
def GI:∀(n:Nat)(v:IV)(d:j7),toD h n v=M d->d.depth<=n:=by
 intro n;induction n with
 |zero=>intro v d e;cases v<;>cases e<;>show Zk _
 |succ n m=>
  intro v d e;cases v with
  |aw=>cases e;show ZF _
  |bl b=>cases e;show ZF _
  |int i=>cases e;show ZF _
  |str z=>cases e;show ZF _
  |tup xs=>let#[ds,k,rfl]:=ZL.mp<|e;show p8<|wO m xs ds k
  |cJ xs=>let#[ds,k,rfl]:=ZL.mp<|e;show p8<|wO m xs ds k
  |ref i=>
   have j:(match h[i]? with|some (.lst xs)=>(xs.mapM<|toD h n).map vY|_=>Z)=M d:=e;cases D:h[i]? with
   |none=>rw[D]at j;cases j
   |some ob=>
    rw[D]at j;cases ob with
    |lst xs=>let#[ds,k,rfl]:=ZL.mp j;show p8<|wO m xs ds k
    |_=>cases j
noncomputable def VS:IV->IV->Wv|.aw,.aw=>M Zl|.int i,.int j=>M<|decide (i=j)|.str i,.str j=>M<|decide (i=j)|.bl i,.bl j=>M<|decide (i=j)|_,_=>Z
noncomputable def QH (x y:IV)(h:IH):Wv:=match toD h 6 x,toD h 6 y with|some a,M b=>if a.canLay0=Zl/\b.canLay0=Zl then M (lQ a b)else Z|_,_=>Z
noncomputable def eA (x y:IV)(h:IH):Res IV:=match VS x y with|some b=>.ok (.bl b) h|none=>match QH x y h with|some b=>.ok (.bl b) h|none=>.stuck
noncomputable def eL (x y:IV)(h:IH):Res IV:=match VS x y with|some b=>.ok (.bl (!b)) h|none=>match QH x y h with|some b=>.ok (.bl (!b)) h|none=>.stuck
def GJ(e:QH x y h=M b):∃k j,toD h 6 x=M k/\toD h 6 y=M j/\k.canLay0=Zl/\j.canLay0=Zl/\b=lQ k j:=by
 unfold QH at e;cases m:toD h 6 x with|none=>rw[m]at e;cases e|some k=>
  cases B:toD h 6 y with|none=>rw[m,B]at e;cases e|some j=>
   rw[m,B]at e;dsimp only at e;split at e
   .lia
   .cases e
def GK{K:W.Frag}(e:VS x y=M b)(qx:RV K Y H x xv)(k:RV K Y H y yv):qH xv yv=Zl/\decide (xv=yv)=b:=by
 cases x with
 |aw=>cases y with|aw=>cases e;cases (qx);cases (k);show#[rfl,rfl]|_=>cases e
 |int i=>cases y with|int j=>cases e;cases (qx);cases (k);show#[rfl,03]|_=>cases e
 |str i=>cases y with|str j=>cases e;cases (qx);cases (k);show#[rfl,03]|_=>cases e
 |bl i=>cases y with|bl j=>cases e;cases (qx);cases (k);show#[rfl,03]|_=>cases e
 |_=>cases y<;>cases e
def AR(hu:X.A.units+64<cLine):dW J X (eY .Eq) eA:=by
 intro V s U H Y bF h x y v u Q E N k j K;let#[P,k,qx]:=k;let#[W,j,C]:=j;unfold eA at K;cases m:VS x y with|some b=>rw[m]at K;let#[R,S]:=GK m qx C;show Qi (OE) N.inv k j #[R,by rw[S];show aJ N K rfl]|none=>rw[m]at K;cases B:QH x y h with|none=>rw[B]at K;show(K).elim|some b=>rw[B]at K;let#[D,I,F,e2,c1,O,rfl]:=GJ B;let#[as,r1]:=wN N 6 x D P v F qx k;let#[bs,r2]:=wN N 6 y I W u e2 C j;have d1:=GI 6 x D F;show PySem.SeqAt.compareEq_reads r1 r2 c1 O 05<|aJ N K rfl _ s N.inv rfl
def AS(hu:X.A.units+64<cLine):dW J X (eY .NotEq) eL:=by
 intro V s U H Y bF h x y v u Q E N k j K;let#[P,k,qx]:=k;let#[W,j,C]:=j;unfold eL at K;cases m:VS x y with|some b=>rw[m]at K;let#[R,S]:=GK m qx C;show Qi (OF) N.inv k j #[R,by rw[S];show aJ N K rfl]|none=>rw[m]at K;cases B:QH x y h with|none=>rw[B]at K;show(K).elim|some b=>rw[B]at K;let#[D,I,F,e2,c1,O,rfl]:=GJ B;let#[as,r1]:=wN N 6 x D P v F qx k;let#[bs,r2]:=wN N 6 y I W u e2 C j;have d1:=GI 6 x D F;show PySem.SeqAt.compareNe_reads r1 r2 c1 O 05<|aJ N K rfl _ s N.inv rfl
noncomputable def uA:IV->IV->Wv|.aw,.aw=>M Zl|.bl a,.bl b=>M<|a==b|.bl _,.aw=>M Zm|.int _,.aw=>M Zm|.str _,.aw=>M Zm|.tup _,.aw=>M Zm|.cJ _,.aw=>M Zm|.ref _,.aw=>M Zm|.aw,.bl _=>M Zm|.int _,.bl _=>M Zm|.str _,.bl _=>M Zm|.tup _,.bl _=>M Zm|.cJ _,.bl _=>M Zm|.ref _,.bl _=>M Zm|_,_=>Z
noncomputable def qO (x y:IV)(h:IH):Res IV:=match uA x y with|some b=>.ok (.bl b) h|none=>.stuck
noncomputable def Xh (x y:IV)(h:IH):Res IV:=match uA x y with|some b=>.ok (.bl (!b)) h|none=>.stuck
def GL{K:W.Frag}(e:uA x y=M b)(j:RU K Y H x v)(m:RU K Y H y u):plainIs v u=Zl/\(v==u)=b:=by
 let#[k,j,qx]:=j;let#[C,m,B]:=m;cases y with
 |aw=>cases (show C=.aw from B);cases m;cases x with|aw=>cases e;cases (show k=.aw from qx);cases j;show#[rfl,rfl]|bl c=>cases e;cases (show k=.bl c from qx);cases j;show#[rfl,rfl]|int c=>cases e;cases (show k=.int c from qx);let#[t,rfl]:=j;show#[rfl,rfl]|str c=>cases e;cases (show k=.str c from qx);let#[t,rfl]:=j;show#[rfl,rfl]|tup c=>cases e;let#[a,O,rfl,_]:=qx;cases j;show#[rfl,rfl]|cJ c=>cases e;let#[a,O,rfl,_]:=qx;cases j;show#[rfl,rfl]|ref c=>cases e;let#[a,rfl,_]:=qx;cases j;show#[rfl,rfl]
 |bl d=>cases (show C=.bl d from B);cases m;cases x with|aw=>cases e;cases (show k=.aw from qx);cases j;show#[rfl,rfl]|bl c=>cases e;cases (show k=.bl c from qx);cases j;cases c<;>cases d<;>show#[rfl,rfl]|int c=>cases e;cases (show k=.int c from qx);let#[t,rfl]:=j;show#[rfl,rfl]|str c=>cases e;cases (show k=.str c from qx);let#[t,rfl]:=j;show#[rfl,rfl]|tup c=>cases e;let#[a,O,rfl,_]:=qx;cases j;show#[rfl,rfl]|cJ c=>cases e;let#[a,O,rfl,_]:=qx;cases j;show#[rfl,rfl]|ref c=>cases e;let#[a,rfl,_]:=qx;cases j;show#[rfl,rfl]
 |_=>cases x<;>cases e
def AU:dW J X (eY .Is) qO:=by intro V s U H Y D h x y v u Q E N m k K;unfold qO at K;cases j:uA x y with|none=>rw[j]at K;show(K).elim|some b=>rw[j]at K;let#[B,C]:=GL j m k;show wpAny_is_plain B<|by rw[C];show aJ N K rfl _ s N.inv rfl
def R7:dW J X (eY .IsNot) Xh:=by intro V s U H Y D h x y v u Q E N m k K;unfold Xh at K;cases j:uA x y with|none=>rw[j]at K;show(K).elim|some b=>rw[j]at K;let#[B,C]:=GL j m k;show wpAny_isNot_plain B<|by rw[C];show aJ N K rfl _ s N.inv rfl
inductive Ty where|aw|bl|int|str|lst|tup|aV|ins (c:Str)|exc (c:Str)
noncomputable def g9:IV->IH->Option Ty|.aw,_=>M .aw|.bl _,_=>M .bl|.int _,_=>M .int|.str _,_=>M .str|.tup _,_=>M .tup|.cJ _,_=>M .lst|.ref i,h=>match h[i]? with|some (.lst _)=>M .lst|some (.aV _)=>M .aV|some (.ins c _)=>M<|.ins c|_=>Z
structure iZ(K:W.Frag)(C:ZD):Prop where
 cl:nk K C
 ha:W.findIn K (.ref C) "__class__"=M (M<|.builtin "object.__class__")
 hn:W.specialIn K (.builtin "object.__class__") "__get__"=M (M<|.builtin "getset_descriptor.__get__")
 R8:W.takesIn K (.builtin "object.__class__")=M Zl
 hm:W.mroIn K C (.type "object")=M Zl
structure eR(J:aN)(K:W.Frag)(c:Zu)(ans:Ty->Wv):Prop where
 aw:∀b,ans .aw=M b->W.kitOne K (.type "NoneType") c=M b
 bl:∀b,ans .bl=M b->W.kitOne K (.type "bool") c=M b
 int:∀b,ans .int=M b->W.kitOne K (.type "int") c=M b
 str:∀b,ans .str=M b->W.kitOne K (.type "str") c=M b
 lst:∀b,ans .lst=M b->W.kitOne K (.type "list") c=M b
 tup:∀b,ans .tup=M b->W.kitOne K (.type "tuple") c=M b
 aV:∀b,ans .aV=M b->W.kitOne K (.type "dict") c=M b
 ins:∀k C b,ans (.ins k)=M b->J k=M C->iZ K C/\W.kitOne K (.ref C) c=M b
 exc:∀k C b,ans (.exc k)=M b->W.nsIn K ZJ k=M (M<|.ref C)->nu K C/\W.kitOne K (.ref C) c=M b
def cw(ans:Ty->Wv)(e:E1):E1:=λU h=>(e U h).bind λv h1=>match (g9 v h1).bind ans with|some b=>.ok (.bl b) h1|none=>.stuck
def R9(N:aG J X V Y bF h U H s)(j:RU X.K Y H x u)(bD:eR J X.K c ans) (e:(g9 x h).bind ans=M b)(k:∀tk,Q (.bool b) {s with toks:=tk}):ZB (Z4 X.prog X.w) A (call (.builtin "isinstance") [u,c]) Q E s:=by
 let#[R,j,qx]:=j;cases x with|aw=>cases (show R=.aw from qx);cases j;show W.kia_one W.kitx_none N.inv.dQ fj (bD.aw b e) (λz=>nomatch z) k|bl i=>cases (show R=.bl i from qx);cases j;show W.kia_one W.kitx_bool N.inv.dQ fj (bD.bl b e) (λz=>nomatch z) k|int i=>cases (show R=.int i from qx);let#[t,rfl]:=j;show W.kia_one W.kitx_int N.inv.dQ fj (bD.int b e) (λz=>nomatch z) k|str i=>cases (show R=.str i from qx);let#[t,rfl]:=j;show W.kia_one W.kitx_str N.inv.dQ fj (bD.str b e) (λz=>nomatch z) k|tup xs=>let#[a,O,rfl,sa,_]:=qx;cases j;let#[P,rv,#[o,F,B,m,hd],hz]:=N.inv.tuple sa;show W.kia_one W.kitx_tuple N.inv.dQ #[o,F,B] (bD.tup b e) (λz=>nomatch z) k|cJ xs=>let#[a,O,rfl,sa,_]:=qx;cases j;let#[P,rv,#[o,m,F,B,_,hd],hz]:=N.inv.list sa.sq;show W.kia_one W.kitx_list N.inv.dQ #[o,F,B] (bD.lst b e) (λz=>nomatch z) k|ref i=>
  let#[a,rfl,ha]:=qx;cases j;cases D:h[i]? with|none=>simp[g9,D]at e|some ob=>cases ob with|lst xs=>simp![g9,D]at e;let#[O,S,r1]:=N.at D ha;let#[P,rv,#[o,m,F,B,_,hd],hz]:=N.inv.list<|b8.of S;show W.kia_one W.kitx_list N.inv.dQ #[o,F,B] (bD.lst b e) (λz=>nomatch z) k|aV kvs=>simp![g9,D]at e;let#[O,S,r1]:=N.at D ha;let#[_,_,ws,_,p]:=(show JR X.prog X.w H s.heap a (.dK O)from N.inv.aA a _ S);let#[o,es,ep,h1,h2,_]:=p;show W.kia_one W.kitx_dict N.inv.dQ #[o,h1,h2.1] (bD.aV b e) (λz=>nomatch z) k|ins c fs=>simp![g9,D]at e;let#[C,dx,O,hC,hH,rp]:=N.at D ha;let#[I,hk]:=bD.ins c C b e hC;let#[mA,Ob,_]:=wq N.inv.aA hH;let#[od,bB,_]:=Ob.look;show W.kia_one (W.kitx_own (I.cl.get _) I.cl.hd I.ha I.hn I.R8 I.hm) N.inv.dQ bB hk (λz=>nomatch z) k|exc c fs=>simp[g9,D]at e|wC c fs=>simp[g9,D]at e|tab q=>simp[g9,D]at e
variable{a cx:Expr}{ma:E1}{pos p:Pos}
def l9(X:Cx)(cx:Expr)(c:Zu):Prop:=∀(V:bf)(U:L2.St)(H:Hp)(s:Zy)(Q E:aL),Inv X V U H s->Q c s->ZB (Z4 X.prog X.w) X.A (bN cx X.env) Q E s
theorem X2(k:Gl X x)(hm:X.mg x=Z)(hv:kT x=M c)(hn:x≠"__name__":=by decide)(j:(x==("__debug__":Str))=Zm:=by decide):l9 X (.Name x p) c:=λ_ _ _ _ _ _ I q=>Q2 I k hm hv q hn j
theorem GN(k:Gl X x)(hm:X.mg x=M c)(j:(x==("__debug__":Str))=Zm:=by decide):l9 X (.Name x p) c:=λ_ _ _ _ _ _ I q=>VJ I k hm q j
def Sa(P:l9 X cx c)(bD:eR J X.K c ans)(ha:ar J X a ma)(O:Gl X "isinstance")(hm:X.mg "isinstance"=Z)(hv:kT "isinstance"=M (.builtin "isinstance"):=by rfl) (C:ZZ [a,cx] X.env=(Zm,bN a X.env)::ZZ [cx] X.env:=by rfl)(B:ZZ [cx] X.env=(Zm,bN cx X.env)::ZZ [] X.env:=by rfl)(m:(eF pos<|ZZ [cx] X.env).any (·.1)=Zm:=by rfl):ar J X (.Call (.Name "isinstance" p) [a,cx] [] pos) (cw ans ma):=by
 intro V s U H Y bF h Q E N K;calc jt<|Q2 N.inv O hm hv ?_ 01 01;calc vR ?_ C m;rw[C];refine zJ<|ha.run N K λx R u W D S j n1 I k=>?_
 rw[B];calc zJ<|P V U D W _ E j.inv ?_;calc Calls.spliced_nil ?_;cases e:(g9 x R).bind ans with|none=>rw[e]at k;show(k).elim|some b=>rw[e]at k;show R9 j I bD e λF=>k _ _ D S #[j.inv.tok F,j.rel,j.st] .refl #[.bl b,rfl,rfl]
def wQ:Ty->Wv|.int=>M Zl|.bl=>M Zl|.ins _=>Z|.exc _=>Z|_=>M Zm
def wR:Ty->Wv|.bl=>M Zl|.ins _=>Z|.exc _=>Z|_=>M Zm
def AV:Ty->Wv|.str=>M Zl|.ins _=>Z|.exc _=>Z|_=>M Zm
def VC:Ty->Wv|.lst=>M Zl|.ins _=>Z|.exc _=>Z|_=>M Zm
def Xx:Ty->Wv|.tup=>M Zl|.ins _=>Z|.exc _=>Z|_=>M Zm
def Sb{K:W.Frag}:eR J K (.type "bool") wR:=by calc#[?_,?_,?_,?_,?_,?_,?_,(λk C b e=>by cases e),(λk C b e=>by cases e)]<;>(intro b e;cases e;first|rfl|with_unfolding_all rfl|kernel_rfl)
def Sd{K:W.Frag}:eR J K (.type "str") AV:=by calc#[?_,?_,?_,?_,?_,?_,?_,(λk C b e=>by cases e),(λk C b e=>by cases e)]<;>(intro b e;cases e;first|rfl|with_unfolding_all rfl|kernel_rfl)
def GO{K:W.Frag}:eR J K (.type "list") VC:=by calc#[?_,?_,?_,?_,?_,?_,?_,(λk C b e=>by cases e),(λk C b e=>by cases e)]<;>(intro b e;cases e;first|rfl|with_unfolding_all rfl|kernel_rfl)
def Se{K:W.Frag}:eR J K (.type "tuple") Xx:=by calc#[?_,?_,?_,?_,?_,?_,?_,(λk C b e=>by cases e),(λk C b e=>by cases e)]<;>(intro b e;cases e;first|rfl|with_unfolding_all rfl|kernel_rfl)
def Sf{K:W.Frag}:eR J K (.type "int") wQ:=by calc#[?_,?_,?_,?_,?_,?_,?_,(λk C b e=>by cases e),(λk C b e=>by cases e)]<;>(intro b e;cases e;first|rfl|with_unfolding_all rfl|kernel_rfl)
end
noncomputable def cy (cells:Wp):Wi->Wp->Wp|[],acc=>acc|(n,k)::r,acc=>cy cells r (if (k==jT)=Zl then(match cells.lookup n with|some c=>(n,c)::acc|none=>acc)else acc)
def Sg(names)(acc)(h:∀x∈names,x.2=.free->∃c,env.cells.lookup x.1=M c):
  (forIn names acc (λ(x:Str×pj)(r:Wp)=>if (x.2==jT)=Zl then(do let c<-cellOf env x.1;pure (nj ((x.1,c)::r)))else pure (nj r)):Sem<|Wp)=pure (cy env.cells names acc):=by
 induction names generalizing acc with|nil=>rfl|cons x r F=>
  let#[n,k]:=x;have m:=λa=>F a λy D=>h y<|Zq _ D
  rw[List.forIn_cons];by_cases j:(k==jT)=Zl
  .have B:k=.free:=by cases k<;>first|rfl|show absurd j 01
   let#[c,C]:=h (n,k) ZA B;have E:cellOf env n=pure c:=by unfold cellOf;rw[C]
   simp![j,if_true,E,pure_bind];rw[m];simp![cy,j,if_true,C]
  .simp only[j,sy,if_false,pure_bind];rw[m];simp![cy,j,sy,if_false]
def AW(h:∀x∈scope.names,x.2=.free->∃c,env.cells.lookup x.1=M c):tq scope env=pure (cy env.cells scope.names []):=by have e:=Sg scope.names [] h;have j:tq scope env=((forIn scope.names [] (λ(x:Str×pj)(r:Wp)=>if (x.2==jT)=Zl then(do let c<-cellOf env x.1;pure (nj ((x.1,c)::r)))else pure (nj r)):Sem<|Wp)>>=λs=>pure s):=rfl;rw[j,e];rfl
theorem AX:∀(names:Wi)(acc:Wp),(∀x c,acc.lookup x=M c->cells.lookup x=M c)->∀x c,(cy cells names acc).lookup x=M c->cells.lookup x=M c
 |[],_,h,x,c,e=>h x c e
 |(n,k)::r,acc,h,x,c,e=>by
  calc AX r _ ?_ x c e;intro y d q;split at q
  .cases m:cells.lookup n with
   |none=>rw[m]at q;show h y d q
   |some a=>
    rw[m]at q;simp![jx]at q;cases j:y==n with
    |true=>rw[j]at q;cases q;rw[beq_iff_eq.mp j];show m
    |false=>rw[j]at q;show h y d q
  .show h y d q
theorem GP:∀(names:Wi)(acc:Wp)(x:Str),(acc.lookup x).isSome=Zl->((cy cells names acc).lookup x).isSome=Zl
 |[],_,_,h=>h
 |(n,k)::r,acc,x,h=>by
  calc GP r _ x ?_;split
  .cases m:cells.lookup n with
   |none=>show h
   |some a=>
    simp![jx];cases j:x==n with
    |true=>rfl
    |false=>show h
  .show h
theorem Yu:∀(names:Wi)(acc:Wp)(x:Str)(c:ZD),(x,jT)∈names->cells.lookup x=M c->((cy cells names acc).lookup x).isSome=Zl
 |[],_,_,_,h,_=>by simp at h
 |(n,k)::r,acc,x,c,h,hc=>by
  rcases ZC.mp h with e|e
  .let#[rfl,rfl]:=Prod.mk.inj e;calc GP r _ _ ?_;simp[hc]
  .show Yu r _ x c e hc
theorem AY{env:Env}:∀{names:Wi}{x:Str}{k:pj},(names.map λ(n,k)=>if (k==jT&&env.scope.kind==.function&&env.kindOf n==M .cell)then(n,v3)else(n,k)).lookup x=M k ->∃k0,names.lookup x=M k0/\(k,k0)∈([(k0,k0),(.cell,.free)]:List<|pj×pj)
 |[],_,_,h=>by simp at h
 |(n,k1)::r,x,k,h=>by
  have C:=@AY env r x k;have j:sv x ((if (k1==jT&&env.scope.kind==.function&&env.kindOf n==M .cell)=Zl then(n,v3)else(n,k1))::_)=M k:=h;cases hx:x==n with
  |true=>
   calc#[k1,by simp[jx,hx],?_];by_cases B:(k1==jT&&env.scope.kind==.function&&env.kindOf n==M .cell)=Zl
   .simp_all
   .rw[if_neg B]at j;simp![jx,hx]at j;cases j;simp
  |false=>
   have D:sv x (r.map λ(n,k)=>if (k==jT&&env.scope.kind==.function&&env.kindOf n==M .cell)then(n,v3)else(n,k))=M k:=by
    by_cases B:(k1==jT&&env.scope.kind==.function&&env.kindOf n==M .cell)=Zl
    .rw[if_pos B]at j;simpa only[jx,hx]using j
    .rw[if_neg B]at j;simpa only[jx,hx]using j
   let#[k0,e,m]:=C D;show#[k0,by simp![jx,hx];show e,m]
theorem GQ{env:Env}:∀{names:Wi}{x:Str},names.lookup x=M .free ->∃k,(names.map λ(n,k)=>if (k==jT&&env.scope.kind==.function&&env.kindOf n==M .cell)then(n,v3)else(n,k)).lookup x=M k/\(k=.cell\/k=.free)
 |[],_,h=>by simp at h
 |(n,k1)::r,x,h=>by
  have m:=@GQ env r x;cases hx:x==n with
  |true=>
   simp![jx,hx]at h;cases h;by_cases j:(jT==jT&&env.scope.kind==.function&&env.kindOf n==M .cell)=Zl
   .show#[.cell,by rw[eP];dsimp only;rw[if_pos j];simp![jx,hx],.inl rfl]
   .show#[.free,by rw[eP];dsimp only;rw[if_neg j];simp![jx,hx],.inr rfl]
  |false=>
   simp![jx,hx]at h;let#[k,e,q]:=m h;calc#[k,?_,q];rw[eP];dsimp only;by_cases j:(k1==jT&&env.scope.kind==.function&&env.kindOf n==M .cell)=Zl
   .rw[if_pos j];simp![jx,hx];show e
   .rw[if_neg j];simp![jx,hx];show e
def fS(X:Cx)(N':Tj)(scope:eO)(C:ZD)(s:Zy)(H:Hp)(fp:Tv):Cx:={X with N:=N',s₀:=s,H₀:=H,env:=compEnvC scope (cy X.env.cells scope.names []) C X.env,outer:=X.stack,ex:=fp,fn:=λ_=>Zm,pn:=[]}
noncomputable def QG (N0 loc caps:Tj)(js:Tp)(sc₀ scope:eO):Bool:=decide (scope.kind=.function)&&decide (sc₀.kind=.function)&&scope.names.all (λx=>!(x.2==.cell))&&scope.names.all (λx=>!(x.2==.local)||decide (scope.names.lookup x.1=M .local)) && scope.names.all (λx=>!(x.2==.free)||decide (sc₀.names.lookup x.1=M .cell)||decide (sc₀.names.lookup x.1=M .free)) && scope.names.all (λx=>!(decide (scope.names.lookup x.1=M .free))||(x.2==.free)) && (js.zip caps).all (λp=>decide (N0[p.1]?=M p.2)&&decide (scope.names.lookup p.2=M .free))&&decide (js.length=caps.length)&&decide (loc++caps).Nodup && loc.all (λn=>decide (scope.names.lookup n=M .local))
open Classical in
def JS(bK:IH->Prop)(g:G1)(t:T1)(e:E1)(i0:Nat):Tw->aE->IH->Res IV|[],_,h=>if bK h then .ok (.ref i0) h else .stuck|x::xs,U,h=>if bK h then(match g x U h with|.next W1 h1=>(match t W1 h1 with|.ok Zl h2=>(match e W1 h2 with|.ok v h3=>(match h3[i0]? with|some (.lst acc)=>if acc.length<sizeLine then JS bK g t e i0 xs W1 (h3.set i0<|.lst<|acc++[v])else .stuck|_=>.stuck)|_=>.stuck)|.ok Zm h2=>JS bK g t e i0 xs W1 h2|_=>.stuck)|_=>.stuck)else .stuck
noncomputable def stC (nloc:Nat)(js:Tp)(U:aE):aE:=fX nloc Z++js.map λj=>(U[j]?).join
def Jv(it:I1)(nloc:Nat)(js:Tp)(g:G1)(t:T1)(e:E1):E1:=λU h=>(it U h).bind λbB h1=>JS bB.bK g t e h1.length bB.xs (stC nloc js U)<|h1++[.lst []]
def Sh(I:Nat->Zy->Prop) (turn:∀n s,I n s->ZB (Z4 prog w) A (kW it) (λr s₁=>match r with
   |none=>R (.ok .next) s₁
   |some v=>ZB (Z4 prog w) A (vr target it v) (λ_ s₁'=>ZB (Z4 prog w) A (nP target env v) (λ_ s₂=>
     ZB (Z4 prog w) A (forIn ifs Zl λc r=>if r=Zl then do let ok<-isTrue c env (bN c env);pure (nj ok)else pure (nj r)) (λok s₃=>
      if ok=Zl then ZB (Z4 prog w) A (bN elt env) (λx s₄=>
       ZB (Z4 prog w) A (call (.builtin "list.append") [acc,x]) (λ_ s₅=>∃m,m<n/\I m s₅) (λ_ _=>False) s₄) (λ_ _=>False) s₃
      else ∃m,m<n/\I m s₃) (λ_ _=>False) s₂) (λ_ _=>False) s₁') (λ_ _=>False) s₁) (λ_ _=>False) s)
  (n) (h:I n s):j6 (Z4 prog w) A (.compLoop (.ListComp elt [#[target,iter,ifs,0]] scope pos) 0 it acc env) R s:=by
 calc codeAny_loop rfl I (λn s k=>?_) n h;calc wpAny_noted<|oB ?_;rw[compTurn_list];refine Ze<|pq<|Ze<|d6 (turn n s k) (λr s₁ h₁=>?_) λ_ _ j=>j
 cases r with
 |none=>show Zp h₁
 |some v=>
  refine Ze<|d6 h₁ (λ_ s₁' h₁'=>?_) λ_ _ j=>j
  refine Ze<|d6 h₁' (λ_ s₂ h₂=>Ze<|d6 h₂ (λok s₃ h₃=>?_) λ_ _ j=>j) λ_ _ j=>j
  cases ok with
  |false=>show Zp #[rfl,h₃]
  |true=>show Ze<|Ze<|d6 h₃ (λx s₄ h₄=>Ze<|d6 h₄ (λ_ s₅ h₅=>Zp<|Zp #[rfl,h₅]) λ_ _ j=>j) λ_ _ j=>j
def mf(J:aN)(X:Cx)(ifs:Td)(m:T1):Prop:=PX J X RB (forIn ifs Zl λc r=>if r=Zl then do let ok<-isTrue c X.env (bN c X.env);pure (nj ok)else pure (nj r)) m
noncomputable def J2:T1:=λ_ h=>.ok Zl h
theorem GR:mf J X [] J2:=λ_ s _ H Y _ _ _ _ N K=>wpAny_tests_nil<|K Zl s H Y N .refl rfl
theorem GS(k:gX J X c m):mf J X [c] m:=λV s U H Y j h Q E N K=>wpAny_tests_one<|k V s U H Y j h Q E N K
def VB(J:aN)(X:Cx)(use:Option<|Zu->Sem Unit)(V:bf)(Y:Tv)(bF:aE)(U:L2.St)(H:Hp)(r:Res IV)(Q E:aL):Prop:=match r with|.ok v h'=>∀bE C m s' H' Y',aG J X V Y' bF h' U H' s'->bj Y H Y' H'->RU X.K Y' H' v (.ref bE)->s'.heap.Ns C m->aH X V H' C->compPost (Z4 X.prog X.w) X.A E use Q (.ref bE) C (.ok .next) s'|.exc n h'=>∀pl a s' H' Y',aG J X (V++pl) Y' bF h' U H' s'->bj Y H Y' H'->Y'[n]?=M a->E (.ref a) s'|.stuck=>False
def VB.mono(k:VB J X use V Y bF U H r Q E)(n:bj Y H Y' H'):VB J X use V Y' bF U H' r Q E:=by cases r with|ok v I=>show λF C m j D B N n2 q=>k F C m j D B N (n.trans n2) q|exc m I=>show λpl a j D B N n2 q=>k pl a j D B N (n.trans n2) q|stuck=>show k
def uB(A:bM)(H:Hp):Prop:=∃a oe u O,A.handled=M (.ref a)/\H a=M (.cI oe u)/\oe.data=.fields O/\O[2]?=M .none
structure uC(P:ZW)(w:bo)(C:Cx->Hp->Prop)(tg:Expr)(bB:It)(fp:Tv)(it:ZD)(tn:Nat->bp->Prop):Prop where
 obj:∀i h,tn i h->∀b∈fp,∃o,h.get? b=M o/\∀v,o.data≠.cell v
 keep:∀i h h',tn i h->(∀b∈fp,∀o,h.get? b=M o->h'.get? b=M o)->tn i h'
 item:∀(X:Cx)(i:Nat)(s:Zy)(U:L2.St)(H:Hp),C X H->Inv X [] U H s->(∀b∈fp,aH X [] H b)->tn i s.heap->bB.go i H ->ZB (Z4 P w) X.A (kW<|.ref it) (λr s1=>∃u,r=M u/\ZB (Z4 P w) X.A (vr tg (.ref it) u) (λ_ s2=>∃x H',Inv X [] U H' s2/\RelV x u/\bB.zZ i H x H'/\tn (i+1) s2.heap/\∀b∈fp,H' b=Z) (λ_ _=>False) s1) (λ_ _=>False) s
 done:∀(X:Cx)(i:Nat)(s:Zy)(U:L2.St)(H:Hp),C X H->Inv X [] U H s->(∀b∈fp,aH X [] H b)->tn i s.heap->bB.stop i H->ZB (Z4 P w) X.A (kW<|.ref it) (λr s1=>r=Z/\Inv X [] U H s1) (λ_ _=>False) s
 self:∀(A:bM)(i:Nat)(s:Zy)(Q:aL)(E:aL),tn i s.heap->Q (.ref it) s->ZB (Z4 P w) A (kX<|.ref it) Q E s
def Si(X0:Cx)(X:Cx)(_:Hp):Prop:=X.prog=X0.prog/\X.w=X0.w/\X.K=X0.K/\X.calm=Zl
def AZ(C:Cx->Hp->Prop)(J:aN)(X:Cx)(tg:Expr)(V:bf)(Y':Tv)(I:ky)(itv:Zu)(s2:Zy)(H':Hp):Prop:=∃(it:ZD)(fp:Tv)(tn:Nat->bp->Prop)(bB:It),itv=.ref it/\uC X.prog X.w C tg bB fp it tn/\tn 0 s2.heap/\(∀b∈fp,aH X V H' b)/\gY J X.K Y' H' bB I
def GU(C:Cx->Hp->Prop)(J:aN)(X:Cx)(tg iter:Expr)(m:I1):Prop:=∀(V:bf)(s:Zy)(U:L2.St)(H:Hp)(Y:Tv)(bF:aE)(h:IH)(Q:aL)(E:aL),aG J X V Y bF h U H s ->(match m bF h with|.ok I h'=>∀itv s' H' Y',aG J X V Y' bF h' U H' s'->bj Y H Y' H'->AZ C J X tg V Y' I itv s' H'->Q itv s'|.exc n h'=>∀pl a s' H' Y',aG J X (V++pl) Y' bF h' U H' s'->bj Y H Y' H'->Y'[n]?=M a->E (.ref a) s'|.stuck=>False) ->
  ZB (Z4 X.prog X.w) X.A (bN iter X.env) (λv s1=>ZB (Z4 X.prog X.w) X.A (kX v) Q E s1) E s
theorem jX.c(p:jX J X tg iter m):GU (Si X) J X tg iter m:=λV s U H Y C h Q E N k=>p V s U H Y C h Q E N (by
 cases e:m C h with|exc n h'=>rw[e]at k;show k|stuck=>rw[e]at k;show k|ok I h'=>
  rw[e]at k;intro j S R Y' D O ⟨it,fp,P,F,W,T,r⟩;refine k j S R Y' D O #[it,fp,P,F,W,#[T.obj,T.keep,λB i s U H c=>?_,λB i s U H c=>?_,T.self],r]
  .show T.item B c.1 c.2.1 c.2.2.1 c.2.2.2 i [] s U H _
  .show T.done B c.1 c.2.1 c.2.2.1 c.2.2.2 i [] s U H _)
section
variable{J:aN}{X:Cx}
def GV{mt:T1}(D:GU Cc J X tg iter mi)
  (hg:∀C s H fp,jE J (fS X (loc++caps) scope C s H fp) tg g)(ht:∀C s H fp,mf J (fS X (loc++caps) scope C s H fp) ifs mt)(he:∀C s H fp,ar J (fS X (loc++caps) scope C s H fp) elt me)
  (ok:QG N0 loc caps js sc₀ scope=Zl)(hN0:X.N=N0:=by rfl)(hsc:X.env.scope=sc₀:=by rfl)(hs:∀x,tj iter X.env x=pure x:=by intro _;rfl)
  (hcc:∀C s H1 fp H',Ext H H'->Cc (fS X (loc++caps) scope C s H1 fp) H')(N:aG J X V Y bF h U H s)(K:VB J X use V Y bF U H (Jv mi loc.length js g mt me bF h) Q E):
  ZB (Z4 X.prog X.w) X.A (comprehension (.ListComp elt [#[tg,iter,ifs,0]] scope pos) scope X.env ppos (newList []) Zm (bN iter X.env) use) Q E s:=by
 simp![QG,Zv,decide_eq_true_eq,pN,sA,m3,beq_iff_eq,beq_eq_false_iff_ne]at ok;let#[#[#[#[#[#[#[#[#[kF,kF0],kNC],kL],kFr],kFx],kJ],kLen],kNd],kLo]:=ok;have hfree:∀x∈scope.names,x.2=.free->X.env.kindOf x.1=M .cell\/X.env.kindOf x.1=M .free:=λx hx hk=>by
  have e:X.env.kindOf x.1=sc₀.names.lookup x.1:=by rw[<-hsc];rfl
  rw[e];rcases kFr x hx with(z|z)|z
  .show absurd hk z
  .show .inl z
  .show .inr z
 have hclos:tq scope X.env=pure (cy X.env.cells scope.names []):=AW λx hx hk=>N.inv.ok.has x.1<|hfree x hx hk
 calc wpAny_comprehension_free (use:=use) (e:=.ListComp elt [#[tg,iter,ifs,0]] scope pos) rfl hs hclos kF (λx hx hl=>(kL x hx).resolve_left λz=>z hl) ?_;calc D V s U H Y bF h _ E N ?_;unfold Jv at K;cases e0:mi bF h with|exc n h'=>rw[e0]at K;show K|stuck=>rw[e0]at K;show K|ok S h1=>
  rw[e0]at K;intro itv s1 H1 U1 N1 n1 RI;let#[it,fp,tn,bB,e,T,st1,f1,OK]:=RI;subst e
  -- the list
  calc mV ?_;have fresh1:H1 s1.heap.objs.size=Z:=N1.inv.aA.fresh<|Zk _;have I2:Inv X V U (upd H1 s1.heap.objs.size<|.lst []) {s1 with heap:=s1.heap.push {cls:=.type "list",dict:=Z,data:=.seq ([]:Tu).toArray} }:=
   N1.inv.laid (t':=s1.toks) (λb u e=>Zj _ e) (Zk _) #[ZF _,[],0,.nil,Zx _ rfl]
  let#[R2,n2]:=N1.rel.alloc (o:=.lst []) (io:=.lst []) fresh1 #[[],J4,rfl];generalize hs2:({s1 with heap:=s1.heap.push {cls:=.type "list",dict:=Z,data:=.seq ([]:Tu).toArray} }:Zy)=R at I2 ⊢;generalize hD:s1.heap.objs.size=bE at *;generalize hH2:upd H1 bE (.lst [])=W at *;have N2:aG J X V (U1++[bE]) bF (h1++[.lst []]) U W R:=#[I2,R2,N1.st.mono n2];have keep12:∀b o,s1.heap.get? b=M o->R.heap.get? b=M o:=λb o q=>by rw[<-hs2];show Zj _ q
  have st2:tn 0 R.heap:=T.keep 0 _ _ st1 λb _ o q=>keep12 b o q
  have hat:(U1++[bE])[h1.length]?=M bE:=by rw[<-N1.rel.len,jS<|Zk _];simp
  have f2:∀b∈fp,aH X V W b:=λb I=>by
   calc#[?_,(f1 b I).2];let#[o,ho,_]:=T.obj 0 _ st1 b I;have:b≠bE:=Zw<|by rw[<-hD];show Z3 ho
   rw[<-hH2,Jw this];show(f1 b I).1
  -- the block's own dict
  calc wpAny_newFunctionEnv (λx hx=>kNC x hx) (by intro y hy;simp at hy) (λh3 hns3 hsb3=>?_) kF;generalize hC:R.heap.objs.size=C at *;have P:∀b o,R.heap.get? b=M o->h3.get? b=M o:=λb o q=>(hsb3.2 b<|Zw<|by rw[<-hC];show Z3 q).trans<|Zj _ q
  have B:∀x c,(cy X.env.cells scope.names []).lookup x=M c->X.env.cells.lookup x=M c:=AX _ _ (λx c q=>by simp at q)
  -- the context of the block
  have okX:(fS X (loc++caps) scope C R W fp).Ok:=by
   refine#[N.inv.ok.mod,kF,N.inv.ok.glob,N.inv.ok.blt,Zg hC,λx y c a b=>N.inv.ok.inj x y c (B x c a)<|B y c b,λx hx=>?_,λx c z=>?_,N.inv.ok.hd,N.inv.ok.frames,.inl rfl,λb I=>?_,λb o q=>I2.bs b o q,
    Zb N.inv.ok.lT I2.sz,λb o q I=>?_,λb I z=>?_,I2.stack,I2.e8]
   .have hx':(relabel scope X.env).names.lookup x=M .cell\/(relabel scope X.env).names.lookup x=M .free:=hx;have hfr:scope.names.lookup x=M .free:=by
     rcases hx' with z|z
     .let#[k0,e,m]:=AY z;simp![ZC,Prod.mk.injEq,eZ,or_false]at m;rcases m with⟨m1,_⟩|⟨_,m2⟩
      .show absurd (kNC _<|j3 e) (by rw[<-m1];intro q;show q rfl)
      .rw[m2]at e;show e
     .let#[k0,e,m]:=AY z;simp![ZC,Prod.mk.injEq,eZ,or_false]at m;rcases m with⟨m1,_⟩|⟨m1,_⟩
      .rw[<-m1]at e;show e
      .cases m1
    have hm:=j3 hfr;let#[c,hc']:=N.inv.ok.has x<|hfree (x,.free) hm rfl;show sW.mp<|Yu _ _ x c hm hc'
   .show absurd (show Zm=Zl from z) Zz
   .have hbD:=f2 b I;let#[o,ho,_]:=T.obj 0 _ st2 b I;show#[Zw (by change b<C;rw[<-hC];show Z3 ho),λx c q=>hbD.2.2.2.2.1 x c<|B x c q]
   .rcases(f2 b I).2.2.2.1 with z|z
    .show N.inv.ok.ke b o q z
    .show jP _<|Zr (Z3 q)<|Zb N.inv.ok.lT z
   .rcases ZC.mp (I2.jA b z)with e|e
    .show(f2 b I).2.1 e
    .show(f2 b I).2.2.1 e
  -- the block's state
  have lenJ:js.length=caps.length:=kLen;have stl:(stC loc.length js bF).length=(loc++caps).length:=by simp[stC,lenJ]
  have R3:Rel J X.K (U1++[bE]) (h1++[.lst []]) W:=R2;have I3:Inv (fS X (loc++caps) scope C R W fp) [] (fX loc.length Z++js.map λj=>(U[j]?).join) W {R with heap:=h3,toks:=R.toks+([]:Wm).length}:=by
   refine#[okX,rfl,I2.bare,Un.kept P,#[_,hns3,λi x v a b c=>?_],λx c q=>?_,I2.aA.fresh<|Zg hC,λx c q=>I2.cg x c<|B x c q,λp hp=>absurd (show p∈([]:bf)from hp) 03,I2.aA.kept P,by change _=(loc++caps).length;simp[lenJ]]
   .have D:loc.length<=i:=by
     refine ZH λhlt=>?_
     rw[ZU (by simpa using hlt),vF]at b;split at b<;>cases b
    obtain⟨k,rfl⟩:∃k,i=loc.length+k:=#[i-loc.length,Z7 (Zg (jh D).symm)<|jg D<|Zk _];have a':(loc++caps)[loc.length+k]?=M x:=a;rw[jS 00]at a';rw[jS 03]at b;simp![yJ,tH,ZI]at a' b;cases ej:js[k]? with|none=>rw[ej]at b;cases b|some j=>
     rw[ej]at b;have b':(U[j]?).join=M v:=gJ b;have hZ:U[j]?=M (M v):=by cases es:U[j]? with|none=>rw[es]at b';cases b'|some o=>rw[es]at b';rw[show o=M v from b']
     have hz:=kJ (j,x) (sg.mpr #[k,by rw[ET];show#[ej,a']]);let#[hx1,hx2]:=hz;let#[m,hn,hl]:=I2.loc;have hk:=hfree (x,.free) (j3 hx2) rfl;let#[u,ru,lk]:=hl j x v (by rw[hN0];show hx1) hZ (by rcases hk with q|q;show .inr (.inl q);show .inr (.inr q));rcases lk with⟨q,_⟩|⟨q,c,hc',hcell⟩
     .rcases hk with q'|q'<;>(rw[q']at q;cases q)
     .let#[kk,ek,hkk]:=GQ (env:=X.env) hx2;have hcl:=Yu (cells:=X.env.cells) scope.names [] x c (j3 hx2) hc';let#[c',hc2]:=sW.mp hcl;have:=B x c' hc2;rw[hc']at this;cases this;let#[oc,hoc,hd]:=hcell;calc#[u,ru,.inr #[?_,c,hc2,oc,P _ _ hoc,hd]];rcases hkk with rfl|rfl
      .show .inl ek
      .show .inr ek
   .let#[v,o,ho,hd]:=I2.cell x c<|B x c q;show#[v,o,P _ _ ho,hd]
  have N3:aG J (fS X (loc++caps) scope C R W fp) [] (U1++[bE]) (stC loc.length js bF) (h1++[.lst []]) (fX loc.length Z++js.map λj=>(U[j]?).join) W {R with heap:=h3,toks:=R.toks+([]:Wm).length}:=by
   calc#[I3,R3,by simp[stC],λi v q=>?_];unfold stC at q;have D:loc.length<=i:=by
    refine ZH λhlt=>?_
    rw[ZU (by simpa using hlt),vF]at q;split at q<;>cases q
   rw[jS<|by simpa using D]at q;simp![tH,ZI]at q;cases ej:js[i-loc.length]? with|none=>rw[ej]at q;cases q|some j=>
    rw[ej]at q;have q':(bF[j]?).join=M v:=gJ q;have hZ:bF[j]?=M (M v):=by cases es:bF[j]? with|none=>rw[es]at q';cases q'|some o=>rw[es]at q';rw[show o=M v from q']
    let#[u,hu,qu]:=N2.st.at_ j v hZ;calc#[u,?_,qu];rw[jS<|by simpa using D];simp![tH,ZI,ej,Option.map_some,hu];rfl
  have st3:tn 0 h3:=T.keep 0 _ _ st2 λb _ o q=>P b o q
  have K2:=VB.mono (r:=JS S.bK g mt me h1.length S.xs (stC loc.length js bF)<|h1++[.lst []]) K<|n1.trans n2;have loop:j6 (Z4 X.prog X.w) X.A (.compLoop (.ListComp elt [#[tg,iter,ifs,0]] scope pos) 0 (.ref it) (.ref bE)<|compEnvC scope (cy X.env.cells scope.names []) C X.env) (compPost (Z4 X.prog X.w) X.A E use Q (.ref bE) C)
    {R with heap:=h3,toks:=R.toks+([]:Wm).length}:=by
   refine Sh (λn s'=>∃k Uk Pk hk U' H',aG J (fS X (loc++caps) scope C R W fp) [] Uk Pk hk U' H' s'/\bj (U1++[bE]) W Uk H'/\tn k s'.heap/\(∀b∈fp,H' b=Z)/\n=S.xs.length-k/\k<=S.xs.length/\VB J X use V Uk bF U H' (JS S.bK g mt me h1.length (S.xs.drop k) Pk hk) Q E) ?_ S.xs.length
    #[0,U1++[bE],stC loc.length js bF,h1++[.lst []],_,W,N3,.refl,st3,λb I=>(f2 b I).1,03,ZF _,by simpa using K2]
   have stat:∀{H':Hp},(∀b∈fp,H' b=Z)->∀b∈fp,aH (fS X (loc++caps) scope C R W fp) [] H' b:=λhn b I=>
    #[hn b I,(okX.uf b I).1,okX.kg b I,.inl I,(okX.uf b I).2,λp hp=>absurd (show p∈([]:bf)from hp) 03]
   rintro n s4 ⟨k,Uk,Pk,hk,U4,H4,N4,n4,st4,fr4,rfl,hkl,F⟩;by_cases hlt:k<S.xs.length
   .have hd:S.xs.drop k=S.xs[k]::S.xs.drop (k+1):=tG hlt;rw[hd]at F;unfold JS at F;split at F
    .rename_i hck;let#[go,yl]:=OK.go k S.xs[k] hk H4 Uk (n2.trans n4) N4.rel hck<|Zh hlt;refine sN (T.item (fS X (loc++caps) scope C R W fp) k s4 U4 H4 (hcc _ _ _ _ _ (n1.trans<|n2.trans n4).ext) N4.inv (stat fr4) st4 go) λr s5 ⟨u,hr,h5⟩=>?_
     subst hr;refine sN h5 λ_ s6 ⟨x,H6,I6,r6,y6,st6,fr6⟩=>?_
     let#[R6,n6,q6]:=yl x H6 y6;have I6':=I6.pinned (stat fr6)<|T.obj _ _ st6;have N6:aG J (fS X (loc++caps) scope C R W fp) ([]++QM fp s6.heap) Uk Pk hk U4 H6 s6:=#[I6',R6,N4.st.mono n6];have again:∀{U7:L2.St}{H7:Hp}{s7:Zy}{U7i:aE}{h7:IH}{W7:Tv},aG J (fS X (loc++caps) scope C R W fp) ([]++QM fp s6.heap) W7 U7i h7 U7 H7 s7->bj Uk H6 W7 H7->VB J X use V Uk bF U H4 (JS S.bK g mt me h1.length (S.xs.drop<|k+1) U7i h7) Q E ->
       ∃m,m<S.xs.length-k/\∃k Uk Pk hk U' H',aG J (fS X (loc++caps) scope C R W fp) [] Uk Pk hk U' H' s7/\bj (U1++[bE]) W Uk H'/\tn k s7.heap/\(∀b∈fp,H' b=Z)/\m=S.xs.length-k/\k<=S.xs.length/\VB J X use V Uk bF U H' (JS S.bK g mt me h1.length (S.xs.drop k) Pk hk) Q E:=
      λ{U7 H7 s7 U7i h7 W7} N7 n7 K7=>by have nn:bj Uk H4 W7 H7:=n6.trans n7;calc#[S.xs.length-(k+1),Nat.sub_succ_lt_self _ _ 06,k+1,W7,U7i,h7,U7,H7,N7.pins,n4.trans nn,T.keep _ _ _ st6 λb I o e=>(N7.inv.pin (b,o)<|Zt _<|Zt _<|Y8 I e).1,λb I=>?_,rfl,hlt,K7.mono nn];let#[o,e,d]:=T.obj _ _ st6 b I;show(N7.inv.pin (b,o)<|Zt _<|Zt _<|Y8 I e).2.1
     cases eg:g S.xs[k] Pk hk with
     |next Ug hgg=>
      rw[eg]at F;dsimp only at F;calc hg C R W fp _ s6 U4 H6 Uk Pk hk _ u (λ_ s7=>ZB (Z4 X.prog X.w) X.A (forIn ifs Zl λc r=>if r=Zl then do let ok<-isTrue c _ (bN c _);pure (nj ok)else pure (nj r)) _ _ s7) (λ_ _=>False) N6 #[x,r6,q6] ?_;rw[eg];intro s7 U7 H7 W7 N7 n7;calc ht C R W fp _ s7 U7 H7 W7 Ug hgg _ (λ_ _=>False) N7 ?_;cases et:mt Ug hgg with
      |ok c h8=>
       rw[et]at F;intro d s8 H8 U8 N8 n8 rd;have rd':d=c:=rd;subst rd';cases d with|false=>show again N8 (n7.trans n8) F|true=>
        dsimp only at F;calc he C R W fp _ s8 U7 H8 U8 Ug h8 _ (λ_ _=>False) N8 ?_;cases ee:me Ug h8 with
        |ok v h9=>
         rw[ee]at F;dsimp only at F;intro w s9 H9 U9 N9 n9 rw9;have hat9:U9[h1.length]?=M bE:=(((n4.trans n6).trans n7).trans<|n8.trans n9).at hat;cases hl:h9[h1.length]? with|none=>rw[hl]at F;show Zf F|some ob=>
          rw[hl]at F;cases ob with
          |lst acc=>
           dsimp only at F;split at F
           .rename_i hz;let#[O,eD,rD]:=N9.at hl hat9;let#[wv,rw9,qw]:=rw9;have ap:=Gg (X:=(fS X (loc++caps) scope C R W fp).br λ_ _=>False) ([]++QM fp s6.heap) s9 U7 H9 (.ref bE) [wv] (.ref bE) [w] (λ_ H'=>H'=upd H9 bE (.lst<|O++[wv])) (N9.inv.br _) rfl (.cons rw9 .nil) #[bE,O,wv,rfl,rfl,eD,by rw[rD.length];show hz,rfl];refine d6 ap (λ_ s10 hq=>?_) λ_ _ z=>z
            let#[z,H10,I10,_,rfl]:=hq;have n10:bj U9 H9 U9 (upd H9 bE<|.lst<|O++[wv]):=#[#[[],03],Ext.cG eD<|by rw[eD];show fj];let#[R10,_]:=N9.rel.write (o:=.lst<|O++[wv]) (io:=.lst<|acc++[v]) hat9 eD (by rw[eD];show fj) #[_,J4,(aC.mono n10 _ _ rD).append<|aC.one<|RV.mono n10 _ _ qw];show again #[I10.bt,R10,N9.st.mono n10] (((n7.trans n8).trans n9).trans n10) F
           .show Zf F
          |_=>show Zf F
        |_=>rw[ee]at F;show Zf F
      |_=>rw[et]at F;show Zf F
     |_=>rw[eg]at F;show Zf F
    .show Zf F
   .have hke:S.xs.drop k=[]:=yY<|ZH hlt;rw[hke]at F;unfold JS at F;split at F
    .rename_i hck;have stop:=OK.stop k hk H4 Uk (n2.trans n4) N4.rel hck<|ZH hlt;refine sN (T.done (fS X (loc++caps) scope C R W fp) k s4 U4 H4 (hcc _ _ _ _ _ (n1.trans<|n2.trans n4).ext) N4.inv (stat fr4) st4 stop) λr s5 ⟨hr,I5⟩=>?_
     subst hr;let#[m,hnm,_]:=I5.loc
     -- back to the def's own frame
     have hos:s5.os=R.os:=I5.os;let#[hp5,g5,d5,t5,os5]:=s5;obtain rfl:os5=R.os:=hos;have J5:Inv X V U H4 {R with heap:=hp5,gens:=g5,drawn:=d5,toks:=t5}:=I2.call (ch:=fp) I5.base I5.aA I5.bare λb I=>#[(f2 b I).2.2.2.1,(f2 b I).2.1,(f2 b I).2.2.2.2.1,(f2 b I).2.2.2.2.2]
     have fC:aH X V H4 C:=I2.dz (Zg hC) I5.free;show F bE C m _ H4 Uk #[J5,N4.rel,(N2.st.mono n4)] .refl #[.ref bE,rfl,bE,rfl,n4.at hat] hnm fC
    .show Zf F
  show codeAny_compStart_list loop<|T.self X.A 0 _ _ _ st3 loop
theorem aG.pW{V:bf}(N:aG J X V Y bF h U H s)(j:aH X V H C)(sb:ka C s.heap h'):aG J X V Y bF h U H {s with heap:=h'}:=
 #[N.inv.turned (λb o k q=>(sb.2 b k).trans q) j.1 j.2.1 j.2.2.2.1 j.2.2.2.2.1 j.2.2.2.2.2,N.rel,N.st]
def GW{B:T1}(hc:X.calm=Zl)(D:jX J X tg iter mi) (W:∀C s H fp,jE J (fS X (loc++caps) scope C s H fp) tg g)(O:∀C s H fp,mf J (fS X (loc++caps) scope C s H fp) ifs B)(he:∀C s H fp,ar J (fS X (loc++caps) scope C s H fp) elt me) (ok:QG N0 loc caps js sc₀ scope=Zl)(F:X.N=N0:=by rfl)(j:X.env.scope=sc₀:=by rfl)(hs:∀x,tj iter X.env x=pure x:=by intro _;rfl):ar J X (.ListComp elt [#[tg,iter,ifs,0]] scope pos) (Jv mi loc.length js g B me):=by intro V s U H Y bF h Q E N K;calc GV D.c W O he ok F j hs (λ_ _ _ _ _ _=>#[rfl,rfl,rfl,hc]) N ?_;cases k:Jv mi loc.length js g B me bF h with|exc n h'=>rw[k]at K;show K|stuck=>rw[k]at K;show K|ok v h'=>rw[k]at K;show λbE C m s' H' Y' P R r I S=>#[m,I,λh2 sb=>K _ _ H' Y' (P.pW S sb) R r]
def GX{mt:T1}(hc:X.calm=Zl)(D:jX J X tg iter mi) (hg:∀C s H fp,jE J (fS X (loc++caps) scope C s H fp) tg g)(ht:∀C s H fp,mf J (fS X (loc++caps) scope C s H fp) ifs mt)(he:∀C s H fp,ar J (fS X (loc++caps) scope C s H fp) elt me) (ok:QG N0 loc caps js sc₀ scope=Zl)(hN0:X.N=N0:=by rfl)(hsc:X.env.scope=sc₀:=by rfl)(hs:∀x,tj iter X.env x=pure x) (hN:X.N.Nodup)(hix:X.N[i]?=M x)(hlx:Loc X.env.scope x)(hf:X.fn x=Zl\/X.env.scope.names.lookup x=M .local) (hsw:qf (.ListComp elt [#[tg,iter,ifs,0]] scope pos) (M<|.Name x pos2) pos3.line X.env=pure Zl):cU J X (.Assign [.Name x pos2] (.ListComp elt [#[tg,iter,ifs,0]] scope pos) pos3) (Jl i<|Jv mi loc.length js g mt me):=by
 intro V s U H Y bF h Q E N K;rw[exec_Assign_Name_used _ _ _ _ hsw];calc Ze<|pq<|Ze ?_;calc Ze ?_;calc GV D.c hg ht he ok hN0 hsc hs (λ_ _ _ _ _ _=>#[rfl,rfl,rfl,hc]) N ?_;unfold Jl at K;cases e0:Jv mi loc.length js g mt me bF h with|exc n h'=>rw[e0]at K;show λpl a B k P F W q=>K pl a B U k P F W q B<|.inl rfl|stuck=>rw[e0]at K;show K|ok v h'=>
  rw[e0]at K;intro bE C m B k P F W r hns fC;let#[w,rw',q]:=r;let#[S,es,ep,I,O,j]:=id hns;have hp:Inv X (V++QM [C] B.heap) U k B:=F.inv.pinned (λb R=>(show b=C by simpa using R)▸fC) (λb R=>by
   have e:b=C:=by simpa using R
   subst e;show#[S,I,λv z=>by rw[O]at z;cases z])
  calc wpAny_assign_Name<|YJ hp hN hix hlx rw' (λs2 I2=>?_) hf;have hC2:=(I2.pin (C,S)<|Zt _<|Zt _<|Y8 03 I).1;calc#[m,#[S,es,ep,hC2,O,j],λh2 sb=>Zp ?_];have N2:aG J X V P (bF.set i<|M v) h' (U.set i<|M w) k s2:=#[I2.iR,F.rel,F.st.set i q];show Zp<|K _ _ k P (N2.pW fC sb) W
noncomputable def VU (x:Str):Tw:=x.cps.toList.map λc=>.str ⟨#[c]⟩
def wU(x:Str):It:=#[λi _=>i<x.cps.size,λi H y H'=>H'=H/\∃c,x.cps[i]?=M c/\y=.str ⟨#[c]⟩,λi _=>x.cps.size<=i]
theorem GY{P:ZW}{w:bo}{K:W.Frag}{tg:Expr}{x:Str}{t:Tok}(it:ZD)(J:["enumerate","zip","dict_itemiterator","dict_reverseitemiterator","odict_iterator","itertools.zip_longest","itertools.pairwise"].contains ty=Zm) (W:∀A:bM,A.handled=Z->Walks P w A it [it] [it] x.cps.size (SignAt x) (λi h=>h.IsStrIter it ty x t i)) (We:∀(A:bM)(E:aL)(s:Zy)(i:Nat)(Q:Ta->Zy->Prop),A.handled=Z->s.heap.IsStrIter it ty x t i->x.cps[i]?=Z->(∀h',pO it s.heap h'->Q Z {s with heap:=h'})->ZB (Z4 P w) A (kW<|.ref it) Q E s) (Ws:∀(A:bM)(E:aL)(s:Zy)(i:Nat)(Q:aL),s.heap.IsStrIter it ty x t i->Q (.ref it) s->ZB (Z4 P w) A (kX<|.ref it) Q E s):Turn P w K tg (wU x) [it] it (λi h=>h.IsStrIter it ty x t i) where
 mem:=03
 obj:=λi h st b j=>by
  have e:b=it:=by simpa using j
  subst e;let#[o,e,c,d]:=st;show#[o,e,λv z=>by rw[d]at z;cases z]
 keep:=λi h h' st k=>by let#[o,e,r]:=st;show#[o,k it 03 o e,r]
 item:=by
  intro X hP Y F S i V s U H E I B st hg;subst hP Y F;let#[C,f1,f2,f3,O,R]:=B it 03;refine(W X.A<|I.ok.hd S).item i s _ _ hg st λv h' tk hv m kk=>?_
  let#[c,u,hcc,rfl]:=hv;have I1:Inv X V U H {s with heap:=h',toks:=tk}:=I.turned (λb o j e=>kk b o (by simpa using j) e) C f1 f3 O R;let#[o,e,c1,d1]:=id m;show#[_,rfl,wh e c1 d1 J #[.str ⟨#[c]⟩,H,I1,#[u,rfl],#[rfl,c,hcc,rfl],m,λb j=>(B b j).1]]
 done:=by
  intro X hP Y F S i V s U H E I B st hg;subst hP Y F;let#[C,f1,f2,f3,O,R]:=B it 03;have D:x.cps.size<=i:=hg;have hx:x.cps[i]?=Z:=by simp[D]
  show We X.A _ s i _ (I.ok.hd S) st hx λh' eb=>#[rfl,I.turned (λb o j e=>eb b o j e) C f1 f3 O R]
 self:=λA i s Q E st h=>Ws A E s i Q st h
def A0:IV->IH->Res ky|.str x,h=>.ok #[VU x,λ_=>True] h|_,_=>.stuck
def qP(e:E1):I1:=λU h=>(e U h).bind A0
def GZ:gY J X.K Y H₀ (wU x) #[VU x,λ_=>True]:=by
 refine#[λk v h H C hp R j hx=>?_,λk h H C hp R j hx=>?_]
 .have D:k<x.cps.size:=by have:=(Zs.mp hx).1;simpa[VU]using this
  calc#[D,λy E B=>?_];let#[rfl,c,m,rfl]:=B;simp![VU,ZI,lO,m]at hx;cases hx;show#[R,.refl,rfl]
 .have:(VU x).length=x.cps.size:=by simp[VU]
  change x.cps.size<=k;rw[<-this];show hx
def Sj(hl:ar J X l ml):jX J X tg l (qP ml):=by
 intro V s U H Y O h Q E N K;calc hl V s U H Y O h _ E N ?_;unfold qP at K;cases B:ml O h with|exc n S=>rw[B]at K;show K|stuck=>rw[B]at K;show K|ok v S=>
  rw[B]at K;intro u m F P j n1 W;let#[w,C,q]:=W;have fresh:∀b∈[m.heap.objs.size],aH X V F b:=λb R=>by
   have e:b=m.heap.objs.size:=by simpa using R
   subst e;show j.inv.dz (Zk _)<|j.inv.aA.fresh<|Zk _
  cases v with
  |str x=>have e1:=q;subst e1;let#[t,rfl]:=C;cases ha:x.cps.all (· < 128)with|true=>calc wpAny_pyIter_ascii ha<|K _ _ F P #[j.inv.kept λb o e=>Zj _ e,j.rel,j.st] n1 ?_;show#[m.heap.objs.size,[m.heap.objs.size],_,wU x,rfl,GY _ 01 (λA k=>Walks.strAscii k _ x t) (λA E s i Q k st hx I=>wpAny_pyNext_ascii_end k st hx I) λA E s i Q st D=>wpAny_pyIter_striter_ascii st D,#[_,Zx _ rfl,rfl,rfl],fresh,GZ]|false=>calc wpAny_pyIter_wide ha<|K _ _ F P #[j.inv.kept λb o e=>Zj _ e,j.rel,j.st] n1 ?_;show#[m.heap.objs.size,[m.heap.objs.size],_,wU x,rfl,GY _ 01 (λA k=>Walks.strWide k _ x t) (λA E s i Q k st hx I=>wpAny_pyNext_wide_end k st hx I) λA E s i Q st D=>wpAny_pyIter_striter_wide st D,#[_,Zx _ rfl,rfl,rfl],fresh,GZ]
  |_=>simp![Res.bind,A0]at K
def A2(K:W.Frag)(a:ZD):It:=#[λi H=>∃xs x,b8 K H a xs/\xs[i]?=M x,λi H y H'=>∃p x,H p=Z/\y=.ref p/\H'=upd H p (.tup [.int (i:Int),x])/\∀xs,b8 K H a xs->xs[i]?=M x,λi H=>∃xs,b8 K H a xs/\xs.length<=i]
def G0(I:Inv X V U H s)(E:aH X V H e)(F:aH X V H it)(le:e<s.heap.objs.size)(O:it<s.heap.objs.size)(k2:∀b o,b≠e->b≠it->s.heap.get? b=M o->h2.get? b=M o)(t2:h2.get? s.heap.objs.size=M {cls:=.type "tuple",data:=.seq (bV [.int i tk,y])})(Q:RelV x y):
  Inv X V U (upd H s.heap.objs.size<|.tup [.int (i:Int),x]) {s with heap:=h2,toks:=t'}/\∀b∈[e,it],upd H s.heap.objs.size (.tup [.int (i:Int),x]) b=Z:=by
 have hn:H s.heap.objs.size=Z:=I.aA.fresh<|Zk _;have j:∀b u,H b=M u->b≠s.heap.objs.size:=λb u q=>Vn q hn
 have C:∀b o,b∉[e,it]->s.heap.get? b=M o->h2.get? b=M o:=λb o B=>k2 b o (λz=>B<|by simp[z]) (λz=>B<|by simp[z])
 have D:∀b∈[e,it],aH X V H b/\b<s.heap.objs.size:=λb k=>by
  simp![ZC,eZ,or_false]at k;rcases k with rfl|rfl
  .show#[E,le]
  .show#[F,O]
 refine#[I.step (g':=s.gens) (d':=s.drawn) (ch:=[e,it]) (λb k=>?_) (λb o _ _ B q _=>C b o B q) (λb o _ _ B q _=>#[o.slots,C b o B q]) (λb o _ q n=>?_)
  (λb o B q=>#[o,C b o B q]) (λb xs q=>by rw[Jw<|j b _ q];show q) (λb o u q=>by rw[Jw<|j b _ q];show q) (λb ps q=>#[#[],by rw[Jw<|j b _ q,q];simp]) (λm hm=>?_) (λb u q=>?_) I.bare,λb k=>?_]
 .have f:=(D b k).1;show#[f.2.2.2.1,f.2.1,f.2.2.2.2.1,f.2.2.2.2.2]
 .rw[Jw<|Zw<|Z3 q];show n
 .let#[o,J,P,R,r]:=hm;show#[o,J,P,k2 _ o (ZV E.2.1) (ZV F.2.1) R,r]
 .by_cases k:b=s.heap.objs.size
  .subst k;rw[J4]at q;cases q;show#[by change 2<=sizeLine;decide,[.int i tk,y],.cons #[_,rfl]<|.cons Q .nil,#[_,t2,rfl,_,rfl]]
  .rw[Jw k]at q;refine(I.aA b u q).fm (λc v B r=>C c v (λz=>?_) r) (λc q=>by rw[Jw<|j c _ q];show q) λc S q=>by rw[Jw<|j c _ q];show q
   have:=(D c z).1.1;rcases B with rfl|w
   .rw[this]at q;cases q
   .rw[this]at w;cases w
 .rw[Jw<|Zw (D b k).2];show(D b k).1.1
theorem Sk{P:ZW}{w:bo}{K:W.Frag}{es:Td}{k:Nat}{p:Pos}(a it e:ZD)(C:e≠it):Turn P w K (.Tuple es k p) (A2 K a) [e,it] e (λi h=>(∃j,IsEnum h e it (i:Int) j)/\h.IsListIter it a i) where
 mem:=03
 obj:=λi h st b F=>by
  let#[#[j,m],o,e1,c,d]:=st;simp![ZC,eZ,or_false]at F;rcases F with rfl|rfl
  .show#[_,m,λv z=>by have z':Data.fields _=wb v:=z;cases z']
  .show#[o,e1,λv z=>by rw[d]at z;cases z]
 keep:=λi h h' st k=>#[let ⟨j,m⟩:=st.1;#[j,k e 03 _ m],st.2.at λo e=>k it 03 o e]
 item:=by
  intro X hP R Q hc i V s U H E I J st hg;subst hP R Q;let#[#[j,m],B]:=st;let#[xs,x,O,hx]:=hg;let#[its,Y,pl,hz]:=I.list O;let#[u,hu,ru]:=Y.get hx;have fe:=J e 03;have fi:=J it 03;refine wpAny_pyNext_enum_item m B pl.isList (x:=u) (by simpa using hu) C λh' he' D ht hsz kk=>?_
  calc#[_,rfl,EM he' λh2 he2 sb=>?_];have lA:=Z3 m;let#[oi,hoi,_]:=id B;let#[o,q,r]:=D;let#[I1,S]:=G0 (t':=s.toks+1) I fe fi lA (Z3 hoi) (λb o h1 h3 q=>(sb.2 b h1).trans<|kk b o h1 h3 q) ((sb.2 _<|dH lA).trans ht) ru;show#[.ref s.heap.objs.size,_,I1,rfl,#[s.heap.objs.size,x,I.aA.fresh<|Zk _,rfl,rfl,λys hy=>by rw[I.iQ hy O];show hx],#[#[_,he2],o,(sb.2 it<|ZV C).trans q,r],S]
 done:=by intro X hP R Q hc i V s U H E I J st hg;subst hP R Q;let#[#[j,m],B]:=st;let#[xs,O,hx]:=hg;let#[its,Y,p,hz]:=I.list O;let#[f0,S,f2,f3,f4,f5]:=J it 03;have hl:=Y.length;show wpAny_pyNext_enum_end (I.ok.hd hc) m B p.isList (by simp;show Zb (Zg hl.symm) hx) λh' eb=>#[rfl,I.turned (t':=s.toks) (λb o F e=>eb b o F e) f0 S f3 f4 f5]
 self:=λ_ _ _ _ _ st h=>let ⟨_,m⟩:=st.1;vq m h
noncomputable def Qn (n:Nat):Tw->Tw|[]=>[]|x::xs=>.tup [.int n,x]::Qn (n+1) xs
theorem Y0:∀(xs:Tw)(n k:Nat),(Qn n xs)[k]?=(xs[k]?).map λx=>.tup [.int ((n+k:Nat):Int),x]|[],_,_=>by simp[Qn]|x::xs,n,0=>by simp[Qn]|x::xs,n,k+1=>by simp![Qn,List.getElem?_cons_succ];rw[Y0 xs (n+1) k];have:n+1+k=n+(k+1):=mQ _ _ _;rw[this]
theorem Ve:∀(xs:Tw)(n:Nat),(Qn n xs).length=xs.length|[],_=>rfl|_::xs,n=>by simp[Qn,Ve xs]
def Vz:Tw->IH->Res ky
 |[.ref i],h=>match h[i]? with
  |some (.lst xs)=>.ok #[Qn 0 xs,λh'=>h'[i]?=M (.lst xs)] h
  |_=>.stuck
 |_,_=>.stuck
def Sl{i:Nat}(ha:Y[i]?=M a):gY J X.K Y H₀ (A2 X.K a) #[Qn 0 xs,λh'=>h'[i]?=M (.lst xs)]:=by
 refine#[λk v h H U hp R j hx=>?_,λk h H U hp R j hx=>?_]
 .let#[O,B,C]:=R.get j<|hp.at ha;have m:=hx;rw[Y0]at m;let#[x,F,rfl]:=ZL.mp m;let#[u,P,Q]:=C.get F;calc#[#[O,u,b8.of B,P],λy W D=>?_];let#[p,V,E,rfl,rfl,D]:=D;have:=D O<|b8.of B;rw[P]at this;cases this;let#[S,I]:=R.grow E;calc#[S,I,p,_,rfl,eJ.of J4,#[_,_,rfl,?_,_,_,rfl,RV.mono I _ _ Q,rfl]];change bC.int (k:Int)=bC.int ((0+k:Nat):Int);simp
 .let#[O,B,C]:=R.get j<|hp.at ha;show#[O,b8.of B,by rw[C.length,<-Ve xs 0];show hx]
def Sm(hg:Gl X "enumerate")(hm:X.mg "enumerate"=Z)(ha:e9 J X [a] ma)(hs:ZZ [a] X.env=[(Zm,bN a X.env)]:=by rfl):jX J X (.Tuple es kt pt) (.Call (.Name "enumerate" p) [a] [] pos) (dM Vz ma):=by
 intro V s U H Y P h Q E N K;calc Call_<|Q2 N.inv hg hm boot_enumerate<|qq ?_ hs rfl;calc ha pos V s U H Y P h _ E N ?_;unfold dM at K;cases m:ma P h with|exc n I=>rw[m]at K;show K|stuck=>rw[m]at K;show K|ok O I=>
  rw[m]at K;intro us k H1 U1 j n1 r1;let#[xs,rv,S]:=r1;cases O with|nil=>show(K).elim|cons x t=>
   cases x with
   |ref i=>
    cases t with|cons _ _=>show(K).elim|nil=>
     let#[w,e1,q]:=S.bS;subst e1;let#[b,e3,C]:=q;subst e3;let#[u,rfl,ru]:=Q3 rv;cases ru;cases D:I[i]? with|none=>simp![Res.bind,Vz,D]at K|some ob=>
      cases ob with
      |lst ys=>
       simp![Res.bind,Vz,D]at K;let#[ws,eH,rH]:=j.at D C;let#[z,its,n,r,hl,W]:=j.inv.gQ eH;refine call_enumerate_1 W λh2 R B hsz kp=>?_
       calc vq R<|K _ _ H1 U1 #[j.inv.kept kp,j.rel,j.st] n1 ?_;calc#[k.heap.objs.size+1,[k.heap.objs.size+1,k.heap.objs.size],_,A2 X.K b,rfl,Sk b k.heap.objs.size (k.heap.objs.size+1)<|dH<|ZY _,#[#[_,R],B],λc F=>?_,Sl C];simp at F;rcases F with rfl|rfl
       .show j.inv.dz (gi _)<|j.inv.aA.fresh<|gi _
       .show j.inv.dz (Zk _)<|j.inv.aA.fresh<|Zk _
      |_=>simp![Res.bind,Vz,D]at K
   |_=>show(K).elim
end
noncomputable def wV:IV->IH->Res ky|.str x,h=>A0 (.str x) h|v,h=>iY v h
def Jq(e:E1):I1:=λU h=>(e U h).bind wV
def wW(hl:ar J X l ml):jX J X tg l (Jq ml):=by
 intro V s U H Y j h Q E N K;cases k:ml j h with
 |ok v m=>cases v with|str x=>show Sj hl V s U H Y j h Q E N<|by unfold qP;unfold Jq at K;rw[k]at K ⊢;show K|_=>show AK (tg:=tg) hl V s U H Y j h Q E N<|by unfold l5;unfold Jq at K;rw[k]at K ⊢;show K
 |exc n m=>show AK (tg:=tg) hl V s U H Y j h Q E N<|by unfold l5;unfold Jq at K;rw[k]at K ⊢;show K
 |stuck=>show AK (tg:=tg) hl V s U H Y j h Q E N<|by unfold l5;unfold Jq at K;rw[k]at K ⊢;show K
section
variable{J:aN}{X:Cx}
def uD:wK J X l7:=by
 intro V s U H Y bF h x v vl W C D S Q E N m F pl B K;let#[R,m,qx]:=m;cases x with
 |ref i=>
  let#[a,k,ha]:=qx;subst k;dsimp only[l7]at K;cases j:h[i]? with|none=>rw[j]at K;show(K).elim|some ob=>rw[j]at K;cases ob with|lst xs=>let#[O,k,I]:=N.at j ha;show GG (F5) N.inv m F pl B #[a,O,rfl,b8.of k,λp hp=>fy N K p hp #[_,J4,aC.new hp<|I.cut C D]]|_=>show(K).elim
 |cJ xs=>let#[a,O,k,sa,P]:=qx;subst k;show GG (F5) N.inv m F pl B #[a,O,rfl,sa.sq,λp hp=>fy N K p hp #[_,J4,aC.new hp<|P.cut C D]]
 |_=>show(K).elim
noncomputable def Vl:IV->IH->Res IV
 |.ref i,h=>match h[i]? with
  |some (.lst xs)=>.ok (.ref h.length)<|h++[.lst xs]
  |_=>.stuck
 |.cJ xs,h=>.ok (.ref h.length)<|h++[.lst xs]
 |.tup xs,h=>.ok (.ref h.length)<|h++[.lst xs]
 |_,_=>.stuck
theorem Sn:Qq J X (.type "list") (aP Vl):=Vc λV s U H Y C h x F u Q E N m qx K=>by
 cases x with
 |ref i=>
  let#[a,j,ha]:=qx;subst j;dsimp only[Vl]at K;cases D:h[i]? with|none=>rw[D]at K;show(K).elim|some ob=>rw[D]at K;cases ob with|lst xs=>let#[O,j,B]:=N.at D ha;show QO (Ak) N.inv (.cons m .nil) #[a,O,rfl,.inl<|b8.of j,λp hp=>fy N K p hp #[_,J4,aC.new hp B]]|_=>show(K).elim
 |cJ xs=>let#[a,O,j,sa,k]:=qx;subst j;show QO (Ak) N.inv (.cons m .nil) #[a,O,rfl,.inl sa.sq,λp hp=>fy N K p hp #[_,J4,aC.new hp k]]
 |tup xs=>let#[a,O,j,sa,k]:=qx;subst j;show QO (Ak) N.inv (.cons m .nil) #[a,O,rfl,.inr sa,λp hp=>fy N K p hp #[_,J4,aC.new hp k]]
 |_=>show(K).elim
noncomputable def VZ:IV->IH->Res IV
 |.ref i,h=>match h[i]? with
  |some (.lst xs)=>.ok (.tup xs) h
  |_=>.stuck
 |.tup xs,h=>.ok (.tup xs) h
 |_,_=>.stuck
theorem Sq:Qq J X (.type "tuple") (aP VZ):=Vc λV s U H Y C h x F u Q E N m qx K=>by
 cases x with
 |ref i=>
  let#[a,j,ha]:=qx;subst j;dsimp only[VZ]at K;cases D:h[i]? with|none=>rw[D]at K;show(K).elim|some ob=>rw[D]at K;cases ob with|lst xs=>let#[O,j,B]:=N.at D ha;show QO (F6) N.inv (.cons m .nil) #[a,O,rfl,.inl #[b8.of j,λp hp=>qM N K p hp B]]|_=>show(K).elim
 |tup xs=>have k:=qx;let#[a,O,j,sa,I]:=qx;subst j;show QO (F6) N.inv (.cons m .nil) #[a,O,rfl,.inr #[sa,aJ N K k]]
 |_=>show(K).elim
noncomputable def hi:IV->IH->Res IV|.int i,h=>if i.natAbs.log2<1920 then .ok (.str<|toString i) h else .stuck|_,_=>.stuck
theorem Sr:Qq J X (.type "str") (aP hi):=Vc λV s U H Y B h x j u Q E N k qx K=>by
 cases x with
 |int i=>
  have e:j=.int i:=qx;subst e;dsimp only[hi]at K;split at K
  .rename_i m;show QO (OQ (X:=X.br E)) N.inv (.cons k .nil) #[i,rfl,m,aJ N K rfl]
  .show Zf K
 |_=>show Zf K
noncomputable def Xz:Tw->Option (List Bool)|[]=>M []|.bl b::r=>(Xz r).map (b:: ·)|_::_=>Z
noncomputable def allI:IV->IH->Res IV
 |.ref i,h=>match h[i]? with
  |some (.lst xs)=>(match Xz xs with
   |some bs=>.ok (.bl<|bs.all id) h
   |none=>.stuck)
  |_=>.stuck
 |_,_=>.stuck
theorem G2{K:W.Frag}:∀{xs:Tw}{bs:List Bool}{O:Uc}{us:Tu},Xz xs=M bs->aC K Y H xs O->Vals O us->us=bs.map sH
 |[],bs,O,us,e,q,r=>by cases e;have j:=q;subst j;cases r;rfl
 |x::xs,bs,O,us,e,q,r=>by
  let#[v,E,j,k,B]:=q;subst j;cases r with
  |cons D m=>
   cases x with
   |bl b=>let#[F,C,rfl]:=ZL.mp<|e;cases (k);cases D;rw[G2 C B m];rfl
   |_=>cases e
def Ss(bs:List Bool):((cO bs.length).all λi=>bs.getD i Zl)=bs.all id:=by
 induction bs with
 |nil=>rfl
 |cons b r j=>
  rw[ji,List.range_succ_eq_map,fY,List.all_map];have e:((cO r.length).all<|(λi=>(b::r).getD i Zl)∘Nat.succ)=(cO r.length).all λi=>r.getD i Zl:=by congr 1
  rw[e,j];rfl
theorem Su(hh:X.A.handled=Z):Qq J X (.builtin "all") (aP allI):=Vc λV s U H Y bF h x xv u Q E N P qx K=>by
 cases x with
 |ref i=>
  let#[a,B,ha]:=qx;subst B;cases P;dsimp only[allI]at K;cases D:h[i]? with|none=>rw[D]at K;show(K).elim|some ob=>
   rw[D]at K;cases ob with
   |lst xs=>
    dsimp only at K;cases j:Xz xs with|none=>rw[j]at K;show(K).elim|some bs=>
     rw[j]at K;let#[O,B,S]:=N.at D ha;let#[its,W,pl,hz]:=N.inv.list<|b8.of B;have eu:=G2 j S W;subst eu;calc call_all_walk<|pe pl.isList ?_;have m:a<s.heap.objs.size:=by let#[o,_,C,_]:=pl;show Z3 C
     have ne:=Zw m;refine#[s.heap.objs.size,_,_,_,_,_,λi=>bs.getD i Zl,rfl,qC (A:=X.A.in1) hh s.heap.objs.size a ne (bs.map sH).toArray,#[#[_,Zx _ rfl,rfl,rfl],?_],?_,λh' tk R=>?_]
     .let#[o,n,C,I,_,hd]:=pl;show#[o,Zj _ C,I,n,hd]
     .intro i v s' Q' E' F hq;simp![yZ,ZI]at F;let#[b,k,rfl]:=ZL.mp F;calc qb ?_;have:bs.getD i Zl=b:=by simp[k]
      rw[<-this];show hq
     .rw[show(bs.map sH).toArray.size=bs.length by simp,Ss];have I1:Inv X V U H {s with heap:=s.heap.push {cls:=.type "list_iterator",data:=.fields (bV [.ref a,.int 0 0])} }:=N.inv.kept λb o e=>Zj _ e
      have f:=N.inv.dz (Zk _)<|N.inv.aA.fresh<|Zk _;show aJ N K rfl _ _ (I1.turned (λb o j e=>R b o (by simpa using j) e) f.1 f.2.1 f.2.2.2.1 f.2.2.2.2.1 f.2.2.2.2.2) rfl
   |_=>show(K).elim
 |_=>show(K).elim
def oD(J:aN)(X:Cx)(T id:String)(g:IV->Tw->IH->Res IV):Prop:=
 ∀(V:bf)(s:Zy)(U:L2.St)(H:Hp)(Y:Tv)(bF:aE)(h:IH)(x:IV)(xs:Tw)(v:Zu)(us:Tu)(Q:aL)(E:aL),aG J X V Y bF h U H s->RU X.K Y H x v->jW X.K Y H xs us ->
  Kont J X RU V Y bF U H (g x xs h) Q E->ZB (Z4 X.prog X.w) X.A (call (.builtin id)<|v::us) Q E s
noncomputable def dX (T:String):IV->IH->Bool
 |.str _,_=>T=="str"
 |.int _,_=>T=="int"
 |.ref i,h=>match h[i]? with
  |some (.lst _)=>T=="list"
  |some (.aV _)=>T=="dict"
  |_=>Zm
 |.cJ _,_=>T=="list"
 |_,_=>Zm
def qQ(T:String)(g:IV->Tw->IH->Res IV)(o:E1)(a:A1):E1:=λU h=>(o U h).bind λx h1=>if dX T x h1=Zl then(a U h1).bind λxs h2=>g x xs h2 else .stuck
def G3(N:aG J X V Y bF h U H s)(q:RV X.K Y H x xv)(e:dX T x h=Zl):F9 X.K T xv H:=by
 cases x with
 |str y=>cases (q);show beq_iff_eq.mp e
 |int y=>cases (q);show beq_iff_eq.mp e
 |cJ y=>let#[a,O,rfl,sa,_]:=q;show .inl #[beq_iff_eq.mp e,O,sa.sq]
 |ref i=>
  let#[a,rfl,ha]:=q;cases D:h[i]? with|none=>simp[dX,D]at e|some ob=>cases ob with|lst xs=>simp![dX,D]at e;let#[O,j,_]:=N.at D ha;show .inl #[beq_iff_eq.mp e,O,b8.of j]|aV k=>simp![dX,D]at e;let#[O,j,_]:=N.at D ha;show .inr<|.inr<|.inl #[beq_iff_eq.mp e,.inl #[O,j]]|_=>simp[dX,D]at e
 |_=>simp[dX]at e
variable{o a:Expr}{es:Td}{mo:E1}{ma:A1}{name:Str}{apos cpos:Pos}{T id:String}{g:IV->Tw->IH->Res IV}
def A3(S:PlainAttrs T)(slot:Slot T name id)(C:typeOf (.builtin id)=pure (.type "method_descriptor"))(hm:oD J X T id g)(ho:ar J X o mo)(ha:e9 J X (a::es) ma)
  (hbase:tp o name X.env (bN o X.env)=bN o X.env:=by rfl)
  (k:((eF cpos<|ZZ (a::es) X.env).all (λx=>!x.1)&&(qg cpos<|qe [] X.env).all (λx=>x.1.isSome)
   && decide ((a::es).length+([]:Tn).length+(if ([]:Tn).isEmpty then 0 else 1)<30))=Zl:=by rfl)
  (hline:(apos.endLine==cpos.line)=Zl:=by rfl) (hs:ZZ (a::es) X.env=(Zm,bN a X.env)::ZZ es X.env:=by rfl) (hplain:(eF cpos<|ZZ es X.env).any (·.1)=Zm:=by rfl):
  ar J X (.Call (.Attribute o name apos) (a::es) [] cpos) (qQ T g mo ma):=by
 intro V s U H Y bF h Q E N K;calc wpAny_Call_method_late hbase k hline rfl (ho.run N K λx h1 v s1 H1 U1 D n1 r1 m=>?_);by_cases j:dX T x h1=Zl
 .rw[if_pos j]at m;let#[xv,I,qx]:=r1;let#[F,B]:=Ga D.inv I<|G3 D qx j;calc#[T,id,S,slot,C,F,B,?_];have O:=(ha cpos).run D m λxs h2 R P H2 W2 N2 n2 r2 W=>hm V P U H2 W2 bF h2 x xs v R Q E N2 #[xv,I,RV.mono n2 _ _ qx] r2 W
  rw[hs]at O ⊢;show Fv (by simp_all)<|Calls.evalArgs_plain O
 .rw[if_neg j]at m;show(m).elim
def Sw(O:PlainAttrs T)(slot:Slot T name id)(C:typeOf (.builtin id)=pure (.type "method_descriptor"))(hm:oD J X T id g)(ho:ar J X o mo)
  (hbase:tp o name X.env (bN o X.env)=bN o X.env:=by rfl)(hline:(apos.endLine==cpos.line)=Zl:=by rfl):ar J X (.Call (.Attribute o name apos) [] [] cpos) (qQ T g mo Je):=by
 intro V s U H Y R h Q E N K;refine wpAny_Call_method0_late hbase hline<|ho.run N K λx I v s1 H1 W D n1 P k=>?_
 by_cases j:dX T x I=Zl
 .rw[if_pos j]at k;let#[S,F,qx]:=P;let#[B,m]:=Ga D.inv F<|G3 D qx j;show#[T,id,O,slot,C,B,m,Fv rfl (PySem.evalArgs_none<|hm V s1 U H1 W R I x [] v [] Q E D #[S,F,qx] .nil k)]
 .rw[if_neg j]at k;show(k).elim
theorem A4(p:wx (X.br E) id r)(I:Inv X V U H s)(m:RelV x v)(rs:Vals xs us) (k:r x xs H λz H'=>∀u s',Inv X V U H' s'->RelV z u->Q u s'):ZB (Z4 X.prog X.w) X.A (call (.builtin id)<|v::us) Q E s:=d6 (p V s U H x xs v us _ (I.br E) m rs k) (λu s' ⟨_,_,j,r,q⟩=>q u s' j.bt r) λ_ _ z=>z
theorem oE(N:aG J X V Y bF h U H s)(K:Kont J X RU V Y bF U H (.ok v<|h.set i<|.lst ys) Q E) (k:Y[i]?=M b)(j:H b=M (.lst O))(r:aC X.K Y H ys ws)(q:RV X.K Y H v w):∀u s',Inv X V U (upd H b<|.lst ws) s'->RelV w u->Q u s':=λu s' I m=>by have n:bj Y H Y (upd H b<|.lst ws):=#[#[[],03],Ext.cG j<|by rw[j];show fj];let#[R,_]:=N.rel.write (io:=.lst ys) k j (by rw[j];show fj) #[_,J4,aC.mono n _ _ r];show K u s' _ Y #[I,R,N.st.mono n] n #[w,m,RV.mono n _ _ q]
noncomputable def Xg:IV->Tw->IH->Res IV
 |.ref i,[y],h=>match h[i]? with
  |some (.lst xs)=>if xs.length<sizeLine then .ok .aw (h.set i<|.lst<|xs++[y])else .stuck
  |_=>.stuck
 |_,_,_=>.stuck
def Sx:oD J X "list" "list.append" Xg:=by
 intro V s U H Y bF h x xs v S Q E N j F K;let#[W,j,qx]:=j;let#[O,P,B]:=F;cases x with
 |ref i=>
  match xs,K with
  |[y],K=>
   let#[a,rfl,ha]:=qx;let#[w,rfl,R]:=B.bS;dsimp only[Xg]at K;cases D:h[i]? with|none=>rw[D]at K;show(K).elim|some ob=>
    rw[D]at K;cases ob with
    |lst zs=>
     dsimp only at K;split at K
     .rename_i I;let#[C,m,k]:=N.at D ha;show A4 (Gg) N.inv j P #[a,C,w,rfl,rfl,m,by rw[k.length];show I,oE N K ha m (k.append<|aC.one R) rfl]
     .show(K).elim
    |_=>show(K).elim
  |[],K=>show(K).elim
  |_::_::_,K=>show(K).elim
 |_=>cases xs<;>show(K).elim
def oF:IV->IV->IV->aE->IH->cf
 |.ref i,.int k,v,U,h=>match h[i]? with
  |some (.lst xs)=>(match ki xs.length k with
   |some j=>.next U<|h.set i<|.lst<|xs.set j v
   |none=>.stuck)
  |_=>.stuck
 |_,_,_,_,_=>.stuck
end
section
variable{J:aN}{X:Cx}
noncomputable def eS:IV->Option Key|.int i=>M<|.inl i|.str x=>M<|.inr x|_=>Z
def wX{K:W.Frag}(e:eS x=M k)(r:RV K Y H x v):v=kV k:=by cases x with|int i=>cases e;show r|str y=>cases e;show r|_=>cases e
def jG:IV->IV->IH->Res IV|.int i,.int j,h=>.ok (.int (if j>i then j else i)) h|_,_,_=>.stuck
def oG:IV->IV->IH->Res IV|.int i,.int j,h=>.ok (.int (if j<i then j else i)) h|_,_,_=>.stuck
def Sy(B:X.calm=Zl):Qq J X (.builtin "max") (l8 jG):=by
 intro V s U H Y D h xs C Q E N r K;let#[O,m,q]:=r;match xs,K with
 |[x,y],K=>
  let#[v,w,rfl,qx,k]:=q.jF;cases x with
  |int i=>cases y with|int j=>cases (qx);cases (k);show QO (OO B) N.inv m #[i,j,rfl,aJ N K rfl]|_=>show(K).elim
  |_=>cases y<;>show(K).elim
 |[],K=>show(K).elim
 |[_],K=>show(K).elim
 |_::_::_::_,K=>show(K).elim
def Sz(B:X.calm=Zl):Qq J X (.builtin "min") (l8 oG):=by
 intro V s U H Y D h xs C Q E N r K;let#[O,m,q]:=r;match xs,K with
 |[x,y],K=>
  let#[v,w,rfl,qx,k]:=q.jF;cases x with
  |int i=>cases y with|int j=>cases (qx);cases (k);show QO (OP B) N.inv m #[i,j,rfl,aJ N K rfl]|_=>show(K).elim
  |_=>cases y<;>show(K).elim
 |[],K=>show(K).elim
 |[_],K=>show(K).elim
 |_::_::_::_,K=>show(K).elim
noncomputable def QC:Tw->Option (Tj)|[]=>M []|.str x::r=>(QC r).map (x:: ·)|_=>Z
theorem A5{K:W.Frag}:∀{xs:Tw}{zs:Tj}{O:Uc}{us:Tu},QC xs=M zs->aC K Y H xs O->Vals O us->∃l:List<|Str×Tok,us=vD l/\l.map (·.1)=zs
 |[],zs,O,us,e,q,r=>by cases e;have j:=q;subst j;cases r;show#[[],rfl,rfl]
 |x::xs,zs,O,us,e,q,r=>by
  let#[v,I,j,k,B]:=q;subst j;cases r with
  |cons E m=>
   cases x with
   |str y=>let#[F,D,rfl]:=ZL.mp<|e;cases (k);let#[t,rfl]:=E;let#[l,rfl,C]:=A5 D B m;show#[(y,t)::l,rfl,by rw[eP,C]]
   |_=>cases e
def XB:IV->Tw->IH->Res IV
 |.str x,[.ref i],h=>match h[i]? with
  |some (.lst xs)=>(match QC xs with
   |some zs=>if JoinOk x zs=Zl then .ok (.str<|Txt.join x zs) h else .stuck
   |none=>.stuck)
  |_=>.stuck
 |_,_,_=>.stuck
def SD:oD J X "str" "str.join" XB:=by
 intro V s U H Y bF h x xs v us Q E N m I K;let#[xv,m,qx]:=m;let#[O,S,C]:=I;cases x with
 |str x=>
  cases (qx);let#[t,rfl]:=m;match xs,K with
  |[.ref i],K=>
   let#[w,rfl,a,rfl,ha]:=C.bS;let#[u,rfl,P]:=Q3 S;cases P;dsimp only[XB]at K;cases D:h[i]? with|none=>rw[D]at K;show(K).elim|some ob=>
    rw[D]at K;cases ob with
    |lst F=>
     dsimp only at K;cases j:QC F with|none=>rw[j]at K;show(K).elim|some zs=>
      rw[j]at K;dsimp only at K;split at K
      .rename_i R;let#[ws,e1,W]:=N.at D ha;let#[its,B,pl,_]:=N.inv.list<|b8.of e1;let#[l,rfl,hl]:=A5 j W B;show SC.join pl.isList hl R λt' k=>aJ N K rfl _ _ (N.inv.tok _) #[_,rfl]
      .show(K).elim
    |_=>show(K).elim
  |[],K=>show(K).elim
  |[.aw],K=>show(K).elim
  |[.bl _],K=>show(K).elim
  |[.int _],K=>show(K).elim
  |[.str _],K=>show(K).elim
  |[.tup _],K=>show(K).elim
  |[.cJ _],K=>show(K).elim
  |y::_::_,K=>cases y<;>show(K).elim
 |_=>show(K).elim
end
noncomputable def JE:Tw->Option (To)|[]=>M []|.int i::r=>(JE r).map (i:: ·)|_=>Z
theorem QI{K:W.Frag}:∀{xs:Tw}{ns:To}{O:Uc}{us:Tu},JE xs=M ns->aC K Y H xs O->Vals O us->d8 us ns
 |[],ns,O,us,e,q,r=>by cases e;have j:=q;subst j;cases r;show .nil
 |x::xs,ns,O,us,e,q,r=>by
  let#[v,E,j,k,B]:=q;subst j;cases r with
  |cons D m=>
   cases x with
   |int i=>let#[n2,C,rfl]:=ZL.mp<|e;cases (k);let#[t,rfl]:=D;show .cons i t<|QI C B m
   |_=>cases e
theorem Xn:∀{us:Tu}{ns:To},d8 us ns->us.length=ns.length
 |_,_,.nil=>rfl
 |_,_,.cons _ _ r=>by simp[Xn r]
section
variable{J:aN}{X:Cx}
noncomputable def cW:IV->IH->Res IV
 |.ref i,h=>match h[i]? with
  |some (.lst xs)=>(match JE xs with
   |some ns=>.ok (.int ns.sum) h
   |none=>.stuck)
  |_=>.stuck
 |_,_=>.stuck
theorem SE(hh:X.A.handled=Z):Qq J X (.builtin "sum") (aP cW):=Vc λV s U H Y bF h x xv u Q E N S qx K=>by
 cases x with
 |ref i=>
  let#[a,B,ha]:=qx;subst B;cases S;dsimp only[cW]at K;cases D:h[i]? with|none=>rw[D]at K;show(K).elim|some ob=>
   rw[D]at K;cases ob with
   |lst xs=>
    dsimp only at K;cases m:JE xs with|none=>rw[m]at K;show(K).elim|some ns=>
     rw[m]at K;let#[O,B,W]:=N.at D ha;let#[its,rv,pl,hz]:=N.inv.list<|b8.of B;have j:=QI m W rv;let#[k,F]:=j.allInts.items;have C:=F▸pl.isList;refine sum_intListG hh C λh2 tk t2 R=>?_
     have en:ns=k.toList.map (·.1):=by have P:=j.numsOf;have q2:=congrArg (λz:Ti=>numsOf z.toList) F;rw[<-P];show q2.trans<|nums_intItems k
     have I:preSum (numAt k) k.size=ns.sum:=by rw[preSum_eq,en,lJ 03]
     rw[I];show aJ N K rfl _ _ (N.inv.kept R) #[_,rfl]
   |_=>show(K).elim
 |_=>show(K).elim
end
noncomputable def JP (f:Nat->Int):Nat->Int|0=>0|1=>f 0|j+2=>if f (j+1)>JP f (j+1)then f (j+1)else JP f (j+1)
def wY(f)(k:0<j):JP f (j+1)=if f j>JP f j then f j else JP f j:=by cases j with|zero=>show absurd 06<|jP _|succ j=>rfl
def SF:{F:String->CmpOp->iw // iw.«max.loop» =F "max" .Gt/\iw.«min.loop» =F "min" .Lt}:=#[_,by unfold iw.«max.loop»;show rfl,by unfold iw.«min.loop»;show rfl]
structure Mm(nm L:String)(op:CmpOp):Prop where
 en:entryFor table L=M (SF.1 nm op)
 pl:plainId L=Zl
 nm:(toString nm++toString ".loop":String)=L
theorem SG:Mm "min" "min.loop" .Lt:=#[PySem.F.entry_min_loop,PySem.F.plain_min_loop,01]
section
variable{pr:ZW}{wd:bo}{B:bM}{R:se->Zy->Prop}{it:ZD}{fps wrs:Tv}{n:Nat}{P:Nat->Zu->Prop}{St:Nat->bp->Prop}
abbrev dB(l:ZD):Obj:={cls:=.type "list_iterator",data:=.fields (bV [.ref l,.int 0 0])}
abbrev SH(v:Zu)(c:Nat):Obj:={cls:=.type "list",dict:=Z,data:=.seq (bV [v,v]) c,slots:=#[]}
theorem Y9:(toString "max"++toString ".loop":String)="max.loop":=01
def SI(W:Walks pr wd B.in1 it fps wrs n P St)(f)(V:∀i v,P i v->∃t,v=.int (f i) t)(C)(S:C∉fps):∀(r j:Nat)(z:Zy)(v:Zu)(u:Tok)(c:Nat),n-j=r->0<j->j<=n->St j z.heap->v=.int (JP f j) u->z.heap.get? C=M (SH v c) ->(∀u h2 tk,(∀a o,a∉wrs->a≠C->z.heap.get? a=M o->h2.get? a=M o)->R (.ok<|.ret<|.int (JP f n) u) {z with heap:=h2,toks:=tk}) ->j6 (Z4 pr wd) B (.builtin "max.loop" #[[.ref it,.none,.ref C],kw]) R z:=by
 have Q:C∉wrs:=λq=>S<|W.sub _ q
 intro r;induction r with
 |zero=>
  intro j z v u c Y O hj st ev gC fin;obtain rfl:j=n:=05;subst ev;calc jQ zF ?_;rw[lR qB _];calc Ze<|nN gC rfl ?_;refine Ze<|kR<|W.done z _ _ st λh2 tk keep=>?_
  have k:=keep C _ Q gC;calc Ze ?_;calc rP k rfl (Ze<|nO<|Zp ?_);show fin u _ tk λa o ha D e=>(Z9 _ _<|ZV D).trans<|keep a o ha e
 |succ r U=>
  intro j z v u c Y O hj st ev gC fin;have lt:j<n:=rF 06;subst ev;calc jQ zF ?_;rw[lR qB _];calc Ze<|nN gC rfl ?_;refine Ze<|kR<|W.item j z _ _ lt st λy h2 tk X E keep=>?_
  let#[t,rfl]:=V j y X;have k:=keep C _ Q gC;have J:=CmpOf.ints_gt (prog:=pr) (w:=wd) (A:=B.in1) (λi=>if i=0 then f j else JP f j) λ_ _ q=>q
  change ZB _ B.in1 (tryCatch (lH [sI (f j) t,sI (f j) t]<|vz .Gt (.int (f j) t) (.int (JP f j) u)>>=_) _>>=_) _ _ _;calc Ze<|kR<|fh<|Ze<|J 0 1 _ _ _ _ _ #[t,03] #[u,03] ?_;calc Ze<|fh<|qb ?_;calc Ze<|nO<|Zp ?_;have step:=wY f O;by_cases D:f j>JP f j
  .rw[if_pos D]at step;simp![if_true,show ¬(1:Nat)=0 by decide,if_false,decide_eq_true D];calc Ze ?_;calc rP k rfl (Ze<|nO ?_);rw[Y9];refine Zp #[jR qB _,U (j+1) _ (.int (f j) t) t _ (congrArg rM 06) (iI _) lt (W.frame _ _ _ E λa ha o e=>?_) (by rw[step]) (k6 _ k rfl) λu2 H m I=>?_]
   .show(Z9 _ _ λq:C=a=>S<|by rw[q];show ha).trans e
   .show fin u2 H m λa o ha F e=>I a o ha F<|(Z9 _ _<|ZV F).trans<|keep a o ha e
  .rw[if_neg D]at step;simp![if_true,show ¬(1:Nat)=0 by decide,if_false,decide_eq_false D,sy];calc Ze<|nO ?_;rw[Y9];calc Zp #[jR qB _,U (j+1) _ (.int (JP f j) u) u c (congrArg rM 06) (iI _) lt E (by rw[step]) k λu2 H m I=>?_];show fin u2 H m λa o ha F e=>I a o ha F<|keep a o ha e
end
def SJ(a v):kY "max" #[[a],[(iE "default",v)]]:=by unfold kY;kernel_rfl
section
variable{pr:ZW}{wd:bo}{B:bM}{E:aL}{z:Zy}{l:ZD}{us:Tu}{ns:To}{d:Ta}{Q:aL}{kw:Wm}
def SK(ns:To)(d:Ta)(v:Zu):Prop:=(ns=[]/\d=M v)\/(ns≠[]/\∃u,v=.int (JP (λi=>ns.getD i 0) ns.length) u)
def G4(hk:zH "max" ["key","default"] 0 #[[],kw]=pure [Z,d])(ha:kY "max" #[[.ref l],kw])(hn:ns=[]->∃v,d=M v)(hh:B.handled=Z)(hl:z.heap.IsList l us.toArray)(D:d8 us ns)
  (U:∀v h2 tk,SK ns d v->(∀b o,z.heap.get? b=M o->h2.get? b=M o)->Q v {z with heap:=h2,toks:=tk}):
  ZB (Z4 pr wd) B (call (.builtin "max") [.ref l] kw) Q E z:=by
 let#[ol,J,_]:=id hl;have lt:=Z3 J;have F:=Xn D;calc kmk_tree PySem.F.kind_max PySem.F.plain_max PySem.F.entry_max ha ?_;calc Ze<|rW hk ?_;calc Ze<|Zp ?_;calc Ze<|pe hl ?_;calc Ze<|pv ?_<|ZF _;rw[Y9];have ne:=Zw lt;have W:=qC (prog:=pr) (w:=wd) (A:=B.in1) hh z.heap.objs.size l ne us.toArray;have sz:us.toArray.size=us.length:=fN ..;have O:(z.heap.push<|dB l).objs.size=z.heap.objs.size+1:=pQ ..;have S:(z.heap.push<|dB l).objs.size∉[z.heap.objs.size,l]:=by rw[O];simp![ZC,eZ,or_false,not_or];show#[dH<|ZY _,dH<|jO lt]
 have Y:(z.heap.push<|dB l).objs.size∉[z.heap.objs.size]:=by rw[O];simp![ZC,eZ,or_false];show dH<|ZY _
 have k:∀b o,z.heap.get? b=M o->((z.heap.push<|dB l).push<|bc "list" #[] 0).get? b=M o:=λb o e=>Zj _<|Zj _ e
 have R:((z.heap.push<|dB l).push<|bc "list" #[] 0).get? z.heap.objs.size=M (dB l):=Zj _<|Zx _ rfl;have gC:((z.heap.push<|dB l).push<|bc "list" #[] 0).get? (z.heap.push<|dB l).objs.size=M (bc "list" #[] 0):=Zx _ rfl;have iW:∀b o,z.heap.get? b=M o->b∉[z.heap.objs.size]:=λb o e q=>Zw (Z3 e)<|ZE.mp q
 have j:∀b o,z.heap.get? b=M o->b≠(z.heap.push<|dB l).objs.size:=λb o e=>by rw[O];show Zw<|jO<|Z3 e
 calc Zp #[jR qB _,jQ zF ?_];rw[lR qB _];calc Ze<|nN gC rfl ?_;by_cases C:us.length=0
 .calc Ze (kR<|W.done _ _ _ (by rw[sz,C];show#[#[_,R,rfl,rfl],(hl.push _).push _]) λh2 tk keep=>?_);let#[v,rfl]:=hn<|sf<|Z7 (Zb (Zg F.symm)<|Zg C)<|ZF _;calc Ze<|jv<|Zp ?_;refine U v h2 tk (.inl #[sf<|Z7 (Zb (Zg F.symm)<|Zg C)<|ZF _,rfl]) λb o e=>keep b o (iW b o e)<|k b o e
 .calc Ze (kR<|W.item 0 _ _ _ (by rw[sz];show lD 06) #[#[_,R,rfl,rfl],(hl.push _).push _] λy h2 tk hP I keep=>?_);have m:=keep _ _ Y gC;change ZB _ B.in1 (updateSeq (z.heap.push<|dB l).objs.size (λ_=>(bV [y,y]))>>=_) _ _ _;calc Ze ?_;calc rP m rfl ?_;rw[Y9];have P:∀(i:Nat)(v:Zu),us.toArray[i]?=M v->∃t,v=.int ((λi=>ns.getD i 0) i) t:=λi v q=>v8 D i v<|by simpa using q
  let#[t,rfl]:=P 0 y hP;refine Zp #[jR qB _,SI W (λi=>ns.getD i 0) P _ S _ 1 _ _ t _ rfl 01 (by rw[sz];show lD 06) (W.frame _ _ _ I λa ha o e=>?_) rfl (k6 _ m rfl) λu V H X=>?_]
  .show(Z9 _ _ λq=>S<|by rw[q];show ha).trans e
  .rw[sz,F];calc U _ V H (.inr #[λq=>C (by rw[F,q];rfl),u,rfl]) λb o e=>X b o (iW b o e) (j b o e)<|(Z9 _ _<|ZV<|j b o e).trans<|keep b o (iW b o e)<|k b o e
end
section
variable{J:aN}{X:Cx}
def maxD(ns:To)(d:IV):IV:=if ns=[]then d else .int (JP (λi=>ns.getD i 0) ns.length)
def Vx(aa:A1)(md:E1):E1:=λU h=>(aa U h).bind λxs h1=>(md U h1).bind λd h2=>match xs with|[.ref i]=>(match h2[i]? with|some (.lst ys)=>(match JE ys with|some ns=>.ok (maxD ns d) h2|none=>.stuck)|_=>.stuck)|_=>.stuck
theorem SM(hh:X.A.handled=Z)(hg:Gl X "max")(hm:X.mg "max"=Z)(ha:e9 J X [a] aa)(hd:ar J X de md)(hs:ZZ [a] X.env=[(Zm,bN a X.env)]):ar J X (.Call (.Name "max" p) [a] [#[M "default",de,kp]] pos) (Vx aa md):=λV s U H Y bF h Q E N K=>by
 calc jt<|Q2 N.inv hg hm rfl ?_;calc callWith_kw ?_ (by rw[hs];rfl) (by rw[hs];rfl) rfl rfl;refine(ha pos).run N K λxs h1 us s1 H1 U1 N1 n1 r1 K1=>?_
 refine vS<|Ze<|PX.run hd N1 K1 λd I du S H2 W2 k n2 r2 j=>Ze<|pq<|Zp<|zr ?_
 let#[O,rv,R]:=r1.mono n2;cases xs with|nil=>show(j).elim|cons x t=>
  cases t with|cons _ _=>cases x<;>show(j).elim|nil=>
   cases x with
   |ref i=>
    let#[w,rfl,ad,rfl,C]:=R.bS;let#[u,rfl,ru]:=Q3 rv;cases ru;dsimp only at j;cases D:I[i]? with|none=>rw[D]at j;show(j).elim|some ob=>
     rw[D]at j;cases ob with
     |lst ys=>
      dsimp only at j;cases m:JE ys with|none=>rw[m]at j;show(j).elim|some ns=>
       rw[m]at j;dsimp only at j;let#[ws,e1,r3]:=k.at D C;let#[its,B,pl,_]:=k.inv.list<|b8.of e1;refine G4 rfl (SJ _ _) (λ_=>#[_,rfl]) hh pl.isList (QI m r3 B) λv W tk mi kk=>?_
       have P:aG J X V W2 bF I U H2 {S with heap:=W,toks:=tk}:=#[k.inv.kept kk,k.rel,k.st];rcases mi with⟨e,ev⟩|⟨e,t,rfl⟩
       .cases ev;have F:maxD ns d=d:=if_pos e;rw[F]at j;show j _ _ _ _ P .refl r2
       .have F:maxD ns d=.int (JP (λi=>ns.getD i 0) ns.length):=if_neg e;rw[F]at j;show j _ _ _ _ P .refl #[.int _,#[t,rfl],rfl]
     |_=>show(j).elim
   |_=>show(j).elim
end
noncomputable def jH (f:Nat->Str)(i:Nat)(k:Str):Bool:=(cO i).any λj=>decide (k=f j)
def hE(f:Nat->Str):Nat->Nat|0=>0|i+1=>if jH f i (f i)then hE f i else hE f i+1
def SN(f)(i)(k):jH f (i+1) k=(jH f i k||decide (k=f i)):=by simp[jH,zf]
theorem A6(f):∀i,hE f i<=i|0=>Zk _|i+1=>by have:=A6 f i;unfold hE;split<;>(first|show nJ 06|show nK 06|lia)
abbrev QQ(led:Bool):Obj:={cls:=.type "set",dict:=Z,data:=.set #[] 0 (.fresh 0 0 led)}
abbrev gw(wd:bo):Bool:=wd.params.followText "set-order"
structure uE(pr:ZW)(wd:bo)(n:Nat)(P:Nat->Zu->Prop)(SA:bp->ZD->Nat->Prop):Prop where
 mv:∀{h h2:bp}{C:ZD}{i:Nat},SA h C i->(∀o,h.get? C=M o->h2.get? C=M o)->SA h2 C i
 add:∀{A:bM}{E:aL}{i:Nat}{v:Zu}{C:ZD}{z:Zy}{Q:Bool->Zy->Prop},P i v->i<n->SA z.heap C i->(∀b h3,ka C z.heap h3->SA h3 C (i+1)->Q b {z with heap:=h3,toks:=z.toks+1})->ZB (Z4 pr wd) A (setAdd C v) Q E z
 new:∀{h:bp}{C:ZD},h.get? C=M (QQ (!gw wd))->SA h C 0
section
variable{pr:ZW}{wd:bo}{A B:bM}{R:se->Zy->Prop}{it:ZD}{fps wrs:Tv}{G:Wj->Wj->Prop}{n:Nat}{P:Nat->Zu->Prop}{St:Nat->Zy->Prop}{SA:bp->ZD->Nat->Prop}{E:aL}{s z:Zy}{l:ZD}{us:Tu}{Q:aL}
def SO(bC:uE pr wd n P SA)(W:WalksS pr wd B.in1 it fps wrs G n P St)(C)(H:C∉fps):∀(r i:Nat)(z:Zy),n-i=r->i<=n->St i z->SA z.heap C i->(∀j,Moved (C::wrs) G z j->SA j.heap C n->R (.ok<|.ret .none) j) ->j6 (Z4 pr wd) B (.builtin "set.update.loop" #[[.ref C,.ref it],[]]) R z:=by
 have I:C∉wrs:=λq=>H<|W.sub _ q
 have more:∀b∈wrs,b∈C::wrs:=λb q=>Zq _ q
 intro r;induction r with|zero=>intro i z U D st k fin;obtain rfl:i=n:=05;calc jQ Fp ?_;rw[lR zG _];show Ze<|W.done z _ _ st λj mv=>Zp<|fin j (mv.mono more)<|bC.mv k λo e=>mv.heap C _ I e|succ r S=>
  intro i z U D st k fin;have lt:i<n:=rF 06;calc jQ Fp ?_;rw[lR zG _];refine Ze<|W.item i z _ _ lt st λv j O F mv=>?_
  refine Ze<|fh<|bC.add O lt (bC.mv k λo e=>mv.heap C _ I e) λ_ V sb m=>?_
  refine Zp #[jR zG _,S (i+1) _ (congrArg rM 06) lt (W.frame _ j _ _ F (gi _) λb q o e=>?_) m λJ Q E=>?_]
  .rw[sb.2 b λe2:b=C=>H<|by rw[<-e2];show q];show e
  .calc fin J (Moved.trans W.gtrans ((mv.mono more).then_heap (gi _) λb o q e=>?_) Q) E;rw[sb.2 b λe2:b=C=>q<|by rw[e2];show ZA];show e
def SR(a)(h:Q₁ (.ref s.heap.objs.size) {s with heap:=s.heap.push (QQ (!gw wd))}):j6 (Z4 pr wd) A (.call (.builtin "set.__new__") #[[.type "set",a],[]]) (wants Q₁ E) s:=by
 calc codeAny_of_tree ?_;calc Ze<|rW (PySem.F.newCall_set_1 a)<|Zp #[jR PySem.F.plain_set_new _,jQ PySem.F.entry_set_new ?_];unfold iw.«set.__new__» Builtin.Frozenset.newClass;have j:=PySem.sub_set_self;let#[hp,g,d,k,os]:=s;dsimp only
 wp_walk
 calc rO<|Zp ?_;dsimp only;calc Ze<|wpAny_alloc<|Zp ?_;show Zp h
set_option maxRecDepth 100000 in
def G5(hh:B.handled=Z)(hl:z.heap.IsList l us.toArray)(bC:uE pr wd us.toArray.size (λi v=>us.toArray[i]?=M v) SA)
  (fin:∀(h2:bp)(tk:Nat),SA h2 z.heap.objs.size us.toArray.size->(∀b o,z.heap.get? b=M o->h2.get? b=M o)->Q (.ref z.heap.objs.size) {z with heap:=h2,toks:=tk}):
  ZB (Z4 pr wd) B (call (.type "set") [.ref l]) Q E z:=by
 let#[c,tl,hmro]:=PySem.F.called_set.mro;have P:=PySem.F.called_set.made;have hsub:=PySem.F.called_set.sub;calc vB<|codeAny_of_tree ?_;change ZB _ _ (callAny (.type "set") _) _ _ _;calc Zp #[Code.quiet_builtin _ (by decide +kernel),jQ PySem.F.entry_type_call ?_];rw[Around.under_plain (weight_type_call_type "set" [.ref l] []) rfl];have no1:=PySem.F.called_set.notType;have no2:=PySem.F.called_set.canCreate;have ok1:=PySem.F.typeCall_set_1<|.ref l;repeat (any_goals (first|assumption|wp_step))
 refine rV (SR (.ref l) (E:=E) (Q₁:=λobj z1=>obj=.ref z.heap.objs.size/\z1={z with heap:=z.heap.push (QQ (!gw wd))}) #[rfl,rfl]) λm z1 Y=>?_
 cases m with|error e=>show Y|ok fl=>
  cases fl with
  |ret obj=>
   let#[rfl,rfl]:=Y;have gS:(z.heap.push<|QQ (!gw wd)).get? z.heap.objs.size=M (QQ (!gw wd)):=Zx _ rfl;have tS:zM {z with heap:=z.heap.push (QQ (!gw wd))} (.ref z.heap.objs.size) "set":=#[_,gS,rfl];have in1:=PySem.F.called_set.init.lookup;have in2:=PySem.F.called_set.init.bind<|.ref z.heap.objs.size;repeat (any_goals (first|assumption|wp_step))
   refine rV (codeAny_call_builtin (R:=wants (λm z2=>m=.none/\∃h2 tk,z2={z with heap:=h2,toks:=tk}/\SA h2 z.heap.objs.size us.toArray.size/\(∀b o,z.heap.get? b=M o->h2.get? b=M o)) E)
    PySem.F.called_set.init.plain PySem.F.entry_set_init (check_set_init_1 tS ?_)) λD z2 k=>?_
   .let#[ol,I,F,nl,H]:=hl;let#[ocls,C,X,j]:=ol;simp only at F H;subst F;subst H;have gl:(z.heap.push<|QQ (!gw wd)).get? l=M {cls:=.type "list",dict:=C,data:=.seq us.toArray nl,slots:=j}:=Zj _ I;have sb1:=PySem.F.sub_list_set;have sb2:=PySem.F.sub_list_frozenset;have dne:(vZ "list"==vZ "dict")=Zm:=01;have J:(z.heap.push<|QQ (!gw wd)).IsList l us.toArray:=#[_,gl,rfl,nl,rfl];unfold iw.«set.__init__» noKeywords Builtin.Frozenset.updateFrom;generalize S:kX=PI
    wp_walk
    subst S;calc pe J ?_;calc Ze<|yT ?_;have lS:l<z.heap.objs.size:=Z3 I;have h3:B.in1.in1.in1.handled=Z:=by simp[hh]
    have A7:l≠(z.heap.push<|QQ (!gw wd)).objs.size:=by rw[sx];show Zw<|jO lS
    have nC:z.heap.objs.size∉[(z.heap.push<|QQ (!gw wd)).objs.size,l]:=by rw[sx];simp![ZC,eZ,or_false,not_or];show#[Zw<|ZY _,dH lS]
    calc SO bC ((qC h3 _ l A7 us.toArray).toS) z.heap.objs.size nC (us.toArray.size-0) 0 _ 04 (ZF _) #[#[_,Zx _ rfl,rfl,rfl],(J.push _)] (bC.new<|Zj _ gS) ?stop;case stop=>
     intro z5 mv V;let#[h5,g5,d5,W,U]:=z5;have eg:g5=z.gens:=mv.gens;have ed:d5=z.drawn:=mv.drawn;have eo:U=z.os:=mv.os;subst eg;subst ed;subst eo;change ZB _ _ _ _ _ _;calc Zp ?_;change ZB _ _ (ret eI) _ _ _;calc Zp #[rfl,h5,W,rfl,V,λb o e=>?_];have lb:=Z3 e;have b1:b≠z.heap.objs.size:=Zw lb;have b2:b≠(z.heap.push<|QQ (!gw wd)).objs.size:=by rw[sx];show Zw<|jO lb
     show mv.heap b o (by simp![ZC,eZ,or_false,not_or];show#[b1,b2])<|Zj _<|Zj _ e
   .cases D with|error e=>show k|ok sP=>
     cases sP with
     |ret rv=>
      let#[rfl,h2,tk,rfl,O,keep]:=k;repeat (any_goals (first|assumption|wp_step))
      show fin _ _ O keep
     |_=>show k.elim
  |_=>show Y.elim
end
section
variable{pr:ZW}{wd:bo}{B:bM}{E:aL}{z:Zy}{l:ZD}{us:Tu}{zs:Tj}{Q:aL}
abbrev G7(pr:ZW)(wd:bo)(hp:bp)(a:ZD)(f:Nat->Str)(i:Nat):Prop:=hp.SetOf (vv pr wd) a (λk=>jH f i k)<|hE f i
abbrev QN(zs:Tj):Nat->Str:=λi=>zs.getD i Str.empty
def SS(S:B.handled=Z)(hl:z.heap.IsList l us.toArray)(H:us=vD l2)(I:l2.map (·.1)=zs)(room:zs.length+1<kU) (fin:∀(h2:bp)(tk:Nat),G7 pr wd h2 z.heap.objs.size (QN zs) zs.length->(∀b o,z.heap.get? b=M o->h2.get? b=M o)->Q (.ref z.heap.objs.size) {z with heap:=h2,toks:=tk}):ZB (Z4 pr wd) B (call (.type "set") [.ref l]) Q E z:=by
 have len:us.toArray.size=zs.length:=by rw[H,<-I];simp[vD]
 refine G5 (SA:=λh a i=>G7 pr wd h a (QN zs) i) S hl #[λ⟨o,O,R,t,U,j⟩ m=>#[o,O,R,t,m o U,j],λ{A E i v C z Q} q lt J k=>?_,λg=>SetOf_congr ((setObjOf_fresh (knd:=vv pr wd) _).setOf g<|by unfold kU;show mR 06) (λ_=>rfl) rfl]<|by rw[len];show fin
 rw[H]at q;simp![vD,yZ,ZI]at q;let#[p,hp,rfl]:=ZL.mp q;have e:p.1=QN zs i:=by rw[<-I];simp[QN,Z0,ZI,hp]
 have D:(vv pr wd).is p.1 (.str p.1 p.2)=Zl:=strKind_is _ _ _ _;have:=A6 (QN zs) i;rw[e]at D ⊢;show fh (Ze<|(vv pr wd).pyHash D<|wpAny_setAddHashed_of (s:={z with toks:=z.toks+1}) D rfl J (Zo<|Zb (Zc (Zb (Zb (Zc this 2)<|Zc lt 1)<|Zc (Zg len) 1) 1) room) λP sb F=>k _ P sb<|SetOf_congr F (λk=>(SN _ i k).symm) rfl)
end
section
variable{J:aN}{X:Cx}
def Yx(aa:A1):E1:=λU h=>(aa U h).bind λxs h1=>match xs with|[.ref i]=>(match h1[i]? with|some (.lst ys)=>(match QC ys with|some zs=>if zs.length+1<kU then .ok (.int<|hE (QN zs) zs.length) h1 else .stuck|none=>.stuck)|_=>.stuck)|_=>.stuck
theorem SU(hh:X.A.handled=Z)(g1:Gl X "len")(m1:X.mg "len"=Z)(g2:Gl X "set")(m2:X.mg "set"=Z)(ha:e9 J X [a] aa)(hs:ZZ [a] X.env=[(Zm,bN a X.env)]):
  ar J X (.Call (.Name "len" p) [.Call (.Name "set" p2) [a] [] pos2] [] pos) (Yx aa):=λV s U H Y bF h Q E N K=>by
 calc jt<|Q2 N.inv g1 m1 rfl ?_;calc vR ?_ rfl rfl;calc zp ?_;calc jt<|Q2 N.inv g2 m2 rfl ?_;calc qq ?_ hs rfl;refine(ha pos2).run N K λxs R us s1 H1 U1 k n1 r1 j=>?_
 let#[O,rv,qs]:=r1;cases xs with|nil=>show(j).elim|cons x t=>
  cases t with|cons _ _=>cases x<;>show(j).elim|nil=>
   cases x with
   |ref i=>
    let#[w,rfl,ad,rfl,C]:=qs.bS;let#[u,rfl,S]:=Q3 rv;cases S;dsimp only at j;cases D:R[i]? with|none=>rw[D]at j;show(j).elim|some ob=>
     rw[D]at j;cases ob with
     |lst ys=>
      dsimp only at j;cases m:QC ys with|none=>rw[m]at j;show(j).elim|some zs=>
       rw[m]at j;dsimp only at j;split at j
       .rename_i room;let#[ws,e1,r3]:=k.at D C;let#[its,I,pl,_]:=k.inv.list<|b8.of e1;let#[l2,eu,ez]:=A5 m r3 I;refine SS hh pl.isList eu ez room λh2 tk hS keep=>zq ?_
        let#[o,es,ep,t,ho,F,hd,hel,P,W,hf,hn]:=hS;have B:(es.size:Int)<2^63:=by
         have:=A6 (QN zs) zs.length;have sb:kU<=2^40:=by unfold kU;decide
         lia
        calc call_len_set ho F hd hf B ?_;rw[hn];show j _ _ _ _ #[(k.inv.kept (t':=_) keep),k.rel,k.st] .refl #[.int _,#[_,rfl],rfl]
       .show(j).elim
     |_=>show(j).elim
   |_=>show(j).elim
end
section
variable{α β:Type}{h h1:IH}{U:aE}
def SV(e:h[n]?=M (.exc c fs)):(cf.exc n U h).fin=.exc n h:=by simp[cf.fin,e]
theorem SW(v)(U):Ja 0 (M v::U) h=.ok v h:=rfl
end
def kD(x:Str)(n:Int):Bool:=decide (x.length<=1000/\ -1000<=n/\n<=1000)
def kD.ok(h:kD x n=Zl):MulOk x n:=by
 simp![kD,decide_eq_true_eq]at h;let#[j,B,m]:=h;refine#[?_,λhn _=>?_,λhn _=>?_]
 .simp;lia
 .have e:(1000:Int)<=(2^63-1)/n:=by rw[vP<|dR.mp 06];lia
  lia
 .have:x.length*n.toNat<=1000*1000:=Nat.mul_le_mul j 05;have k:1000000<sizeLine:=01;unfold Builtin.Str.tooLong;lia
def SX:fQ X (fW .Mult) (λx y H Q=>∃i j,x=.str i/\y=.int j/\kD i j=Zl/\Q (.str<|Txt.mul i j) H):=by intro V s U H x y v u Q I B k h;let#[i,j,rfl,rfl,C,q]:=h;let#[t,rfl]:=B;let#[m,rfl]:=k;show SB.mul (kD.ok C) λm D=>#[.str<|Txt.mul i j,H,I.tok _,#[_,rfl],q]
def Qc(x y:IV)(h:IH):Res IV:=match x with|.str i=>(match y with|.int j=>if kD i j then .ok (.str<|Txt.mul i j) h else .stuck|_=>.stuck)|x=>XH x y h
section
variable{J:aN}{X:Cx}
def SY:dW J X (fW .Mult) Qc:=by
 intro V s U H Y D h x y v u Q E N m k K;cases x with
 |str i=>
  let#[P,m,qx]:=m;let#[O,k,B]:=k;cases y with
  |int j=>
   have F:=qx;have C:=B;subst F C;dsimp only[Qc]at K;split at K
   .rename_i I;show Qi (SX) N.inv m k #[i,j,rfl,rfl,I,aJ N K rfl]
   .show(K).elim
  |_=>show(K).elim
 |_=>show PV V s U H Y D h _ y v u Q E N m k K
end
noncomputable def aW (kvs:Wo)(k:Key):Te:=(kvs.find? λkv=>decide (kv.1=k)).map (·.2)
def V7(e:p.1=k):aW (p::r) k=M p.2:=by simp[aW,e]
def Vq(e:¬p.1=k):aW (p::r) k=aW r k:=by simp[aW,e]
theorem b9.get{K:W.Frag}(k):∀{xs:Wo}{O:Wr},b9 K Y H xs O->(aW xs k=Z/\eQ O k=Z)\/∃v w,aW xs k=M v/\eQ O k=M w/\RV K Y H v w
 |[],_,h=>by have e:=h;subst e;show .inl #[rfl,rfl]
 |x::xs,_,h=>by
  let#[v,r,rfl,q,t]:=h;by_cases e:x.1=k
  .show .inr #[x.2,v,V7 e,Ao e,q]
  .rw[Vq e,Ap e];show b9.get k t
theorem b9.snoc{K:W.Frag}(q:RV K Y H v w):∀{xs:Wo}{O:Wr},b9 K Y H xs O->b9 K Y H (xs++[(k,v)]) (O++[(k,w)])
 |[],_,h=>by have e:=h;subst e;show#[w,[],rfl,q,rfl]
 |x::xs,_,h=>by let#[j,r,rfl,m,t]:=h;show#[j,r++[(k,w)],rfl,m,b9.snoc q t]
def Ar{k:Key}(e:eQ O k=Z):putK O k w=O++[(k,w)]:=by unfold putK;rw[if_neg];rw[Aq,e];show Zz
section
variable{J:aN}{X:Cx}
def X6:E1:=λ_ h=>.ok (.ref h.length)<|h++[.aV []]
theorem S0:ar J X (.Dict [] [] pos) X6:=λV s U H Y k h Q E N K=>by
 have hn:=N.inv.aA.fresh<|Zk s.heap.objs.size;have I1:=N.inv.laid (t':=s.toks) (λ_ _ q=>Zj _ q) (Zk _)<|Pu s.heap N.inv.big;let#[m,n1]:=N.rel.alloc (io:=.aV []) hn #[[],J4,rfl];have B:aG J X V (Y++[s.heap.objs.size]) k (h++[.aV []]) U (upd H s.heap.objs.size<|.dK []) _:=#[I1,m,N.st.mono n1];have j:(Y++[s.heap.objs.size])[h.length]?=M s.heap.objs.size:=by rw[<-N.rel.len,jS<|Zk _];simp
 show wpAny_Dict_empty<|K _ _ _ (Y++[s.heap.objs.size]) B n1 #[.ref _,rfl,_,rfl,j]
def VT:IV->Tw->IH->Res IV
 |.ref i,[y,v],h=>match h[i]? with
  |some (.aV kvs)=>(match eS y with
   |some k=>(match aW kvs k with
    |some w=>.ok w h
    |none=>if kvs.length<sizeLine then .ok v (h.set i<|.aV<|kvs++[(k,v)])else .stuck)
   |none=>.stuck)
  |_=>.stuck
 |_,_,_=>.stuck
def S3:oD J X "dict" "dict.setdefault" VT:=by
 intro V s U H Y bF h x xs v us Q E N rx rs K;let#[xv,rx,qx]:=rx;let#[O,rv,qs]:=rs;cases x with
 |ref i=>
  match xs,K with
  |[y,y2],K=>
   let#[a,rfl,ha]:=qx;let#[w,S,rfl,qw,I]:=qs.jF;dsimp only[VT]at K;cases D:h[i]? with|none=>rw[D]at K;show Zf K|some ob=>
    rw[D]at K;cases ob with
    |aV R=>
     dsimp only at K;cases ek:eS y with|none=>rw[ek]at K;show Zf K|some k=>
      rw[ek]at K;dsimp only at K;let#[ws,m,W]:=N.at D ha;cases wX ek qw;cases rv with|@cons _ _ _ _ ru t=>
      cases t with|@cons _ u2 _ _ B t=>
      cases t;cases (rx);let#[z,hd,ps,rel,dd]:=wz N.inv.aA m;have hz:ps.length<=sizeLine:=by rw[<-rel.length];show z
      refine call_meetsIn Ff dd.typeIs PySem.F.entry_dict_setdefault (PySem.F.args_dict_setdefault_3 _ _ _) (kt_meets_setdefault (Vm X.prog X.w) a (wy ru) hd u2) #[ps,dd,hz,λv' hv=>?_,λhn h' C hs=>?_]
      .rcases W.get k with⟨p,q⟩|⟨v1,w1,p,q,r⟩
       .have j:=rel.val k;rw[q]at j;rw[dJ.none_of j]at hv;cases hv
       .rw[p]at K;have j:=rel.val k;rw[q,hv]at j;show aJ (w:=w1) N K r _ _ (N.inv.tok _) j
      .rcases W.get k with⟨p,q⟩|⟨v1,w1,p,q,r⟩
       .rw[p]at K;dsimp only at K;split at K
        .rename_i hl;have he:∃q,h'.get? a=M q:=let ⟨q,_,_,hq,_⟩:=C;#[q,hq];have F:(putK ws k S).length<=sizeLine:=by rw[Ar q,ZM,W.length];show hl
         have I4:=Gi (t':=s.toks+1) N.inv (by rw[m];show fj) hs he<|Gj F hd (rel.put k B) C;have n:bj Y H Y (upd H a<|.dK<|putK ws k S):=#[#[[],03],Ext.cG m<|by rw[m];show fj];let#[R4,_]:=N.rel.write (io:=.aV<|R++[(k,y2)]) ha m (by rw[m];show fj) #[_,J4,(congrArg (λP=>b9 X.K Y (upd H a<|.dK<|putK ws k S) (R++[(k,y2)]) P)<|Ar q).mpr<|b9.mono n _ _<|W.snoc I];show K _ _ _ Y #[I4,R4,N.st.mono n] n #[S,B,RV.mono n _ _ I]
        .show Zf K
       .have j:=rel.val k;rw[q,hn]at j;show Zf j
    |_=>show Zf K
  |[],K=>show Zf K
  |[_],K=>show Zf K
  |_::_::_::_,K=>show Zf K
 |_=>cases xs<;>show Zf K
end
noncomputable def putD (kvs:Wo)(k:Key)(v:IV):Wo:=if (kvs.any λkv=>decide (kv.1=k))=Zl then kvs.map (λkv=>if kv.1=k then(kv.1,v)else kv)else kvs++[(k,v)]
theorem b9.any{K:W.Frag}(k):∀{xs:Wo}{O:Wr},b9 K Y H xs O->(xs.any λj=>decide (j.1=k))=O.any λj=>decide (j.1=k)|[],_,h=>by have e:=h;subst e;rfl|x::xs,_,h=>by let#[v,r,rfl,q,t]:=h;rw[sk,sk,b9.any k t]
theorem b9.upd{K:W.Frag}(q:RV K Y H v w):∀{xs:Wo}{O:Wr},b9 K Y H xs O->b9 K Y H (xs.map λj=>if j.1=k then(j.1,v)else j) (O.map λj=>if j.1=k then(j.1,w)else j)
 |[],_,h=>by have e:=h;subst e;show rfl
 |x::xs,_,h=>by
  let#[m,r,rfl,B,t]:=h;rw[eP,eP];by_cases e:x.1=k
  .rw[if_pos e,if_pos e];show#[w,_,rfl,q,b9.upd q t]
  .rw[if_neg e,if_neg e];show#[m,_,rfl,B,b9.upd q t]
def b9.uF{K:W.Frag}(q:RV K Y H v w)(r:b9 K Y H xs O):b9 K Y H (putD xs k v) (putK O k w):=by
 unfold putD putK;rw[r.any k];split
 .show r.upd q
 .show r.snoc q
section
variable{J:aN}{X:Cx}
def VO(x y:IV)(h:IH):Res IV:=match x with|.ref i=>(match h[i]? with|some (.aV kvs)=>(match eS y with|some k=>(match aW kvs k with|some v=>.ok v h|none=>.stuck)|none=>.stuck)|_=>.stuck)|_=>.stuck
def S4:wI J X VO:=by
 intro B j V s U H Y bF h x y v u Q E N C m K hs;let#[xv,C,qx]:=C;let#[yv,m,R]:=m;cases x with
 |ref i=>
  let#[a,I,ha]:=qx;subst I;dsimp only[VO]at K;cases D:h[i]? with|none=>rw[D]at K;show(K).elim|some ob=>
   rw[D]at K;cases ob with
   |aV kvs=>
    dsimp only at K;cases ek:eS y with|none=>rw[ek]at K;show(K).elim|some k=>
     rw[ek]at K;dsimp only at K;let#[ws,I,r1]:=N.at D ha;cases wX ek R;cases (C);let#[z,hd,ps,rel,P]:=wz N.inv.aA I;rcases r1.get k with⟨p,q⟩|⟨v1,w1,p,q,r⟩
     .rw[p]at K;show(K).elim
     .rw[p]at K;have O:=rel.val k;rw[q]at O;let#[W,S,F]:=dJ.some_of O;show zt (x:=W) P.typeIs PySem.F.slot_dict_getitem.lookup (wpAny_getItem_of (wy m) P.mapOf S #[rfl,aJ N K r _ _ (N.inv.tok _) F]) hs
   |_=>show(K).elim
 |_=>show(K).elim
noncomputable def hJ (x c:IV)(h:IH):Res IV:=match c with|.ref i=>(match h[i]? with|some (.aV kvs)=>(match eS x with|some k=>.ok (.bl (aW kvs k).isSome) h|none=>.stuck)|_=>.stuck)|_=>.stuck
def S5:dW J X (eY .In) hJ:=by
 intro V s U H Y bF h x y v u Q E N m j K;let#[S,m,qx]:=m;let#[W,j,F]:=j;cases y with
 |ref i=>
  let#[a,C,ha]:=F;subst C;dsimp only[hJ]at K;cases D:h[i]? with|none=>rw[D]at K;show(K).elim|some ob=>
   rw[D]at K;cases ob with
   |aV B=>
    dsimp only at K;cases ek:eS x with|none=>rw[ek]at K;show(K).elim|some k=>
     rw[ek]at K;dsimp only at K;let#[I,C,R]:=N.at D ha;cases wX ek qx;cases (j);let#[z,hd,ps,rel,P]:=wz N.inv.aA C;calc wpAny_in_of (wy m) hd P.mapOf ?_;rw[<-(rel.val k).kj];have O:(eQ I k).isSome=(aW B k).isSome:=by rcases R.get k with⟨p,q⟩|⟨v1,w1,p,q,r⟩<;>rw[p,q]<;>rfl
     rw[O];show aJ N K rfl _ _ (N.inv.tok _) rfl
   |_=>show(K).elim
 |_=>show(K).elim
def YF:IV->IV->IV->aE->IH->cf
 |.ref i,iv,v,U,h=>match h[i]? with
  |some (.aV kvs)=>(match eS iv with
   |some k=>if kvs.length<sizeLine then .next U (h.set i<|.aV<|putD kvs k v)else .stuck
   |none=>.stuck)
  |_=>.stuck
 |_,_,_,_,_=>.stuck
def hU(o i:E1):G1:=λv U h=>rS U (o U h) λov h1=>rS U (i U h1) λiv h2=>YF ov iv v U h2
def S6(ho:ar J X oe mo)(D:ar J X ie mi)
  (ha:∀v,nP (.Subscript oe ie pos) X.env v=(do
   let ov<-lH [v] (bN oe X.env)
   let iv<-lH [v,ov] (bN ie X.env)
   sd pos
   lH [v,ov,iv] (setItem ov iv v)
   release [v,ov,iv] [])):jE J X (.Subscript oe ie pos) (hU mo mi):=by
 intro V s U H Y bF h v u Q E N r K;rw[ha];refine Ze<|fh<|dA ho N K λov h1 ou s1 H1 U1 N1 n1 r1 K1=>?_
 refine Ze<|fh<|dA D N1 K1 λiv R iu s2 S P I n2 r2 j=>?_
 have r':RU X.K P S v u:=(r.mono n1).mono n2;let#[ox,ro,qo]:=r1.mono n2;let#[ix,ri,qi]:=r2;let#[vx,rvx,qv]:=r';calc Ze<|pq<|Ze<|fh ?_;cases ov with
 |ref i=>
  let#[a,rfl,C]:=qo;dsimp only[YF]at j;cases W:R[i]? with|none=>rw[W]at j;show(j).elim|some ob=>
   rw[W]at j;cases ob with
   |aV kvs=>
    dsimp only at j;cases ek:eS iv with|none=>rw[ek]at j;show(j).elim|some k=>
     rw[ek]at j;dsimp only at j;split at j
     .rename_i hl;let#[ws,m,O]:=I.at W C;cases wX ek qi;cases (ro);let#[z,hd,ps,rel,dd]:=wz I.inv.aA m;have hz:ps.length<=sizeLine:=by rw[<-rel.length];show z
      have F:(putK ws k vx).length<=sizeLine:=by have h1:=Pq ws k vx;have R:=O.length;show Zb (Zb h1<|Zc (Zg R) 1) hl
      refine wpAny_setItem_pairs (hsz:=hz) (wy ri) dd λh' B hs=>?_
      have he:∃q,h'.get? a=M q:=let ⟨q,_,_,hq,_⟩:=B;#[q,hq];have I4:=Gi (t':=s2.toks+1) I.inv (by rw[m];show fj) hs he<|Gj F hd (rel.put k rvx) B;have n:bj P S P (upd S a<|.dK<|putK ws k vx):=#[#[[],03],Ext.cG m<|by rw[m];show fj];let#[R3,_]:=I.rel.write (io:=.aV<|putD kvs k v) C m (by rw[m];show fj) #[_,J4,b9.uF (RV.mono n _ _ qv)<|b9.mono n _ _ O];show wpAny_release<|j _ U _ P #[I4,R3,I.st.mono n] n
     .show(j).elim
   |_=>show(j).elim
 |_=>show(j).elim
end
def leZ(a b:Int):Bool:=decide (a<=b)
def Qo(ns:To):To:=ns.mergeSort leZ
def G8(ns):(Qo ns).Pairwise (· <= ·):=by have:=EX (le:=leZ) (λa b c k j=>by simp![leZ]at *;lia) (λa b=>by simp![leZ];lia) ns;show this.imp λh=>by simpa[leZ]using h
theorem G9(p:ns'.Perm ns)(s:ns'.Pairwise (· <= ·)):ns'=Qo ns:=Ft (λa b _ _ j k=>m7 j k) s (G8 ns) (p.trans (y9 ns leZ).symm)
theorem Xu:∀{us:Tu}{ns:To},d8 us ns->Vals (ns.map bC.int) us|_,_,.nil=>.nil|_,_,.cons _ _ r=>.cons #[_,rfl]<|Xu r
theorem wZ{K:W.Frag}:∀ns:To,aC K Y H (ns.map IV.int) (ns.map bC.int)|[]=>rfl|_::ns=>#[_,_,rfl,rfl,wZ ns]
def qR(xs:Tw):Option (Tw):=match JE xs with|some ns=>M<|(Qo ns).map .int|none=>Z
section
variable{J:aN}{X:Cx}
def XU:IV->IH->Res IV
 |.ref i,h=>match h[i]? with
  |some (.lst xs)=>if xs.length<64 then(match qR xs with
   |some ys=>.ok (.ref h.length)<|h++[.lst ys]
   |none=>.stuck)else .stuck
  |_=>.stuck
 |_,_=>.stuck
theorem S7:Qq J X (.builtin "sorted") (aP XU):=Vc λV s U H Y bF h x xv u Q E N ru qx K=>by
 cases x with
 |ref i=>
  let#[a,F,ha]:=qx;subst F;cases ru;dsimp only[XU]at K;cases D:h[i]? with|none=>rw[D]at K;show(K).elim|some ob=>
   rw[D]at K;cases ob with
   |lst xs=>
    dsimp only at K;split at K
    .rename_i j;let#[O,F,P]:=N.at D ha;let#[B,R,pl,hz]:=N.inv.list<|b8.of F;have I:B.length=xs.length:=by rw[<-R.length,P.length]
     have S:64<=sizeLine:=01;have fresh:=N.inv.aA.fresh<|gi _;unfold qR at K;cases C:JE xs with
     |some ns=>
      rw[C]at K;have k:=QI C P R;have ln:=Xn k;refine sorted_ints pl.isList k (Zb (Zc (Zg I) 1) j) λm W hI hp hs=>?_
      have en:=G9 hp hs;subst en;let#[e,he]:=sortedAll_at s.heap B m;have hl:((Qo ns).map bC.int).length<=sizeLine:=by rw[Zn,hp.length_eq];show Zo<|Zb (Zb (Zc (Zb (Zg ln.symm)<|Zg I) 1) j) S
      have I':=N.inv.laid (o:=.lst<|(Qo ns).map bC.int) (t':=s.toks) (λ_ _=>sortedAll_old) (gi _) #[hl,m.toList,e,Xu hI,he];show fy N K (s.heap.objs.size+1) fresh #[_,J4,wZ _] _ _ I' rfl
     |none=>rw[C]at K;show(K).elim
    .show(K).elim
   |_=>show(K).elim
 |_=>show(K).elim
end
def QF(f:Nat->Int):Nat->Int|0=>0|1=>f 0|j+2=>if f (j+1)<QF f (j+1)then f (j+1)else QF f (j+1)
def A8(f)(k:0<j):QF f (j+1)=if f j<QF f j then f j else QF f j:=by cases j with|zero=>show absurd 06<|jP _|succ j=>rfl
theorem Hb(f):∀k,QF f (k+1)=f (qk (λi j=>decide (f i<f j)) k)|0=>rfl|k+1=>by rw[A8 f<|iI k,Hb f k];change _=f (if decide (f (k+1)<f (qk _ k))=Zl then k+1 else qk _ k);simp;split<;>rfl
section
variable{pr:ZW}{wd:bo}{B:bM}{E:aL}{z:Zy}{l:ZD}{us:Tu}{ns:To}{Q:aL}
def S8(I:B.handled=Z)(hl:z.heap.IsList l us.toArray)(D:d8 us ns)(F:ns≠[])
  (R:∀v h2 tk,(∃u,v=.int (QF (λi=>ns.getD i 0) ns.length) u)->(∀b o,z.heap.get? b=M o->h2.get? b=M o)->Q v {z with heap:=h2,toks:=tk}):
  ZB (Z4 pr wd) B (call (.builtin "min") [.ref l]) Q E z:=by
 let#[S,C,_]:=id hl;have lt:=Z3 C;have k:=Xn D;have j:0<ns.length:=tM.mpr F;have sz:us.toArray.size=us.length:=fN ..;have H:∀(i:Nat)(v:Zu),us.toArray[i]?=M v->∃t,v=.int ((λi=>ns.getD i 0) i) t:=λi v q=>v8 D i v<|by simpa using q
 refine call_min_walk (pe hl #[_,[_,l],[_],_,_,_,_,rfl,qC (A:=B.in1) I _ l (Zw lt) us.toArray,#[#[_,Zx _ rfl,rfl,rfl],hl.push _],λb m=>?_,by rw[sz];show Zb j<|Zg k.symm,CmpOf.ints_lt (λi=>ns.getD i 0) H,λv P tk J O=>?_])
 .change b<(z.heap.push _).objs.size;rw[pQ];rcases ZC.mp m with rfl|m
  .show ZY _
  .cases ZE.mp m;show jO lt
 .let#[u,rfl]:=H _ _ J;have e:us.toArray.size-1+1=ns.length:=by rw[sz];show Z7 (Zb (Zg<|j2<|Zb j<|Zg k.symm)<|Zg k)<|Zb (Zg k.symm)<|vi<|Zk _
  refine R _ P tk #[u,?_] λb o e=>O b o (λq=>Zw (Z3 e)<|ZE.mp q)<|Zj _ e
  rw[<-e,Hb]
end
section
variable{J:aN}{X:Cx}
def XF:IV->IH->Res IV
 |.ref i,h=>match h[i]? with
  |some (.lst xs)=>(match JE xs with
   |some ns=>if ns=[]then .stuck else .ok (.int<|QF (λi=>ns.getD i 0) ns.length) h
   |none=>.stuck)
  |_=>.stuck
 |_,_=>.stuck
theorem S9(P:X.A.handled=Z):Qq J X (.builtin "min") (aP XF):=Vc λV s U H Y bF h x W u Q E N C qx K=>by
 cases x with
 |ref i=>
  let#[a,m,ha]:=qx;subst m;cases C;dsimp only[XF]at K;cases D:h[i]? with|none=>rw[D]at K;show(K).elim|some ob=>
   rw[D]at K;cases ob with
   |lst xs=>
    dsimp only at K;cases j:JE xs with|none=>rw[j]at K;show(K).elim|some ns=>
     rw[j]at K;dsimp only at K;split at K
     .show(K).elim
     .rename_i k;let#[O,m,F]:=N.at D ha;let#[R,I,pl,hz]:=N.inv.list<|b8.of m;refine S8 P pl.isList (QI j F I) k λv h2 S ⟨t,ev⟩ B=>?_
      subst ev;show aJ N K rfl _ _ (N.inv.kept B) #[t,rfl]
   |_=>show(K).elim
 |_=>show(K).elim
end
theorem aC.erase{K:W.Frag}:∀{xs:Tw}{O:Uc}(k:Nat),aC K Y H xs O->aC K Y H (xs.eraseIdx k) (O.eraseIdx k)|[],O,k,h=>by cases (h);show rfl|_::_,_,0,h=>by let#[v,r,rfl,q,t]:=h;show t|_::_,_,k+1,h=>by let#[v,r,rfl,q,t]:=h;show#[v,r.eraseIdx k,rfl,q,aC.erase k t]
section
variable{J:aN}{X:Cx}
noncomputable def X9:IV->Tw->IH->Res IV
 |.ref i,[.ref j],h=>match h[i]? with
  |some (.lst xs)=>(match h[j]? with
   |some (.lst ys)=>if xs.length+ys.length<=sizeLine then .ok .aw (h.set i<|.lst<|xs++ys)else .stuck
   |_=>.stuck)
  |_=>.stuck
 |_,_,_=>.stuck
def TB:oD J X "list" "list.extend" X9:=by
 intro V s U H Y bF h x xs v us Q E N m rs K;let#[xv,m,qx]:=m;let#[O,rv,R]:=rs;cases x with
 |ref i=>
  match xs,K with
  |[y],K=>
   cases y with
   |ref j=>
    let#[a,rfl,ha]:=qx;let#[w,rfl,b,rfl,P]:=R.bS;dsimp only[X9]at K;cases D:h[i]? with|none=>rw[D]at K;show Zf K|some ob=>
     rw[D]at K;cases ob with
     |lst zs=>
      dsimp only at K;cases B:h[j]? with|none=>rw[B]at K;show Zf K|some W=>
       rw[B]at K;cases W with
       |lst ys=>
        dsimp only at K;split at K
        .rename_i hl;let#[S,I,F]:=N.at D ha;let#[k,e2,C]:=N.at B P;show A4 (Ph (X:=X.br E)) N.inv m rv #[a,b,S,k,rfl,rfl,I,e2,by rw[F.length,C.length];show hl,oE (ys:=zs++ys) N K ha I (F.append C) rfl]
        .show Zf K
       |_=>show Zf K
     |_=>show Zf K
   |_=>show Zf K
  |[],K=>show Zf K
  |y::_::_,K=>cases y<;>show Zf K
 |_=>cases xs with|nil=>show Zf K|cons y r=>cases y<;>cases r<;>show Zf K
def A9(k:Int):Zu->Bool|.int a _=>a==k|_=>Zm
theorem He:∀(us:Tu)(ns:To),us.length=ns.length->(∀i v,us[i]?=M v->∃t:Tok,v=sI (ns.getD i 0) t)->d8 us ns|[],[],_,_=>.nil|u::us,n::ns,hl,h=>by let#[t,e]:=h 0 u rfl;cases (e);show .cons n t (He us ns (by simpa using hl) λi v q=>h (i+1) v q)|[],_::_,hl,_=>by cases hl|_::_,[],hl,_=>by cases hl
def XQ(j):aZ 0 j=((cO j.toNat).map λk=>((k:Nat):Int)).map IV.int:=by simp[aZ]
end
section
variable{prog:ZW}{w:bo}{A:bM}{E:aL}{s:Zy}
def Ba{Q:aL}(j:s.heap.IsTupleIter it t i)(H:s.heap.IsTuple t items) (h:match items[i]? with|some x=>∀h',h'.IsTupleIter it t (i+1)->ka it s.heap h'->Q x {s with heap:=h'}|none=>A.handled=Z/\∀h' e,pO it s.heap h'->(∃o,h'.get? e=M o/\o.cls=.type "StopIteration")->E (.ref e) {s with heap:=h'}):ZB (Z4 prog w) A (Fx<|.ref it) Q E s:=by let#[J,D,I,k]:=id j;let#[ot,B,_,O,C]:=H;unfold Fx;calc Ze<|td (name:=iE "__next__") j.typeIs F.slot_tuple_iterator_next<|ph F.slot_tuple_iterator_next j.typeIs F.entry_tuple_iterator_next ?_<|F.args_tuple_iterator_next_1 _;change ZB _ A.in1 (field (.ref it) 0>>=_) _ _ s;calc Ze<|mW D k (x:=.ref t) rfl ?_;change ZB _ A.in1 (if (pU t==eI)=Zl then _ else _) _ _ s;rw[if_neg<|show ¬(pU t==eI)=Zl from Zz];change ZB _ A.in1 (field (.ref it) 1>>=_) _ _ s;calc Ze<|mW D k (x:=.int i 0) rfl ?_;change ZB _ A.in1 (tx (.ref t)>>=_) _ _ s;calc Ze<|nN B C ?_;simp![m6];cases hx:items[i]? with|some x=>rw[hx]at h;calc Ze<|j4 D k 03<|Zp #[x,rfl,Zp<|h _ #[_,k6 _ D<|pT<|iC k _,(tY ..).trans I,?_]<|nh ..];rw[iC k];simp[cN]|none=>rw[hx]at h;calc Ze<|jv<|Ze<|j4 D k 03 ?_;change ZB _ A.in1 (newExc (.type "StopIteration") []>>=_) _ _ _;calc Ze ?_;simp![newExc,newTuple];calc Ze (mV ?_<|by size_fits);calc Ze (m:=firstArgMember _ _) (rW (a:=eI) (by first|rfl|(simp![firstArgMember];rfl)) ?_);calc mV ?_ (by size_fits);simp![raiseNew];calc Ze (wpAny_handled ?_);rw[show A.in1.handled=Z from h.1];show Ze<|Zp<|wpAny_throw<|h.2 _ _ (((nh ..).extBut.push _).push _) #[_,Zx _ rfl,rfl]
end
theorem TC{prog:ZW}{w:bo}{A:bM}(F:A.handled=Z)(it l:ZD)(m:l≠it)(items:Ti):Draws prog w A it [it,l] items.size (λi v=>items[i]?=M v) (λi h=>h.IsTupleIter it l i/\h.IsTuple l items) where
 live:=λ_ _ st=>let ⟨o,H,_⟩:=st.1;#[o,H]
 frame:=λ_ _ _ st B=>#[st.1.at λo e=>B it 03 o e,let ⟨o,e,r⟩:=st.2;#[o,B l 03 o e,r]]
 item:=λi s Q E D st J=>Ba st.1 st.2 (by rw[getElem?_pos items i D];show λI k j=>J _ I s.toks (getElem?_pos items i D) #[k,st.2.extBut j.extBut m] j)
 done:=λs Q E st C=>Ba st.1 st.2<|by rw[getElem?_neg items items.size<|jP _];show#[F,C]
theorem TF{prog:ZW}{w:bo}{A:bM}(m:A.handled=Z)(it l:ZD)(i:Nat)(items:Ti)(hx:items[i]?=Z):Draws prog w A it [it,l] i (λ_ _=>True) (λj h=>j=i/\h.IsTupleIter it l i/\h.IsTuple l items) where
 live:=λ_ _ st=>let ⟨o,C,_⟩:=st.2.1;#[o,C]
 frame:=λ_ _ _ st k=>#[st.1,st.2.1.at λo e=>k it 03 o e,let ⟨o,e,r⟩:=st.2.2;#[o,k l 03 o e,r]]
 item:=λj s Q E D st F=>by have:=st.1;lia
 done:=λs Q E st B=>Ba st.2.1 st.2.2<|by rw[hx];show#[m,B]
open AutoSeq1 (wpAny_loadPart') in
theorem TG(l)(items)(n)(aV)(sl):
  Meets (iw.«enumerate.__new__» #[[.type "enumerate",.ref l],[]]) (λ_ R s=>s.heap.get? l=M {cls:=.type "tuple",dict:=aV,data:=.seq items n,slots:=sl} /\
   R (.ok<|.ret<|.ref (s.heap.push {cls:=.type "tuple_iterator",data:=.fields (bV [.ref l,.int 0 0])}).objs.size)
    {s with heap:=(s.heap.push {cls:=.type "tuple_iterator",data:=.fields (bV [.ref l,.int 0 0])}).push {cls:=.type "enumerate",data:=.fields (bV [.none,.bool Zm,.ref s.heap.objs.size,cN 0,.none,.none])} }):=
 .of_wp λprog w A R s h=>by
  let#[hp,g,d,tk,os]:=s;let#[hl,h]:=h;have hsub:=sub_enumerate;have hT:Heap.IsTuple (Shared.heap #[hp,g,d,tk,os]) l items:=#[_,hl,rfl,n,rfl]
  wp_walk using tf hl
  refine wpAny_stack_any λst=>Zp ?_
  split
  .rename_i c _ _ _ _ _;cases (c==vZ "enumerate")<;>(wp_walk using tf hl,vp hT;show#[_,rfl,h])
  .wp_walk using tf hl,vp hT
   show#[_,rfl,h]
section
variable{prog:ZW}{w:bo}{A:bM}{E:aL}{s:Zy}
def TH(D:s.heap.IsTuple l items) (h:∀h',IsEnum h' (s.heap.objs.size+1) s.heap.objs.size 0 .none->h'.IsTupleIter s.heap.objs.size l 0->(∀b o,s.heap.get? b=M o->h'.get? b=M o)->Q (.ref<|s.heap.objs.size+1) {s with heap:=h'}):ZB (Z4 prog w) A (call (.type "enumerate") [.ref l]) Q E s:=by
 let#[#[c,aV,m,C],H,B,n,hd]:=D;cases (show c=.type "tuple" from B);cases (show m=.seq items n from hd);calc callType_new F.called_enumerate 01 (F.typeCall_enumerate_1 _) (F.newCall_enumerate_1 _) (λobj=>F.args_object_init_2 obj _) F.entry_enumerate_new (TG l items n aV C) #[H,?_];have j:(s.heap.push {cls:=.type "tuple_iterator",data:=.fields (bV [.ref l,.int 0 0])}).objs.size=s.heap.objs.size+1:=sx ..;change _/\_;rw[j];have k:IsEnum ((s.heap.push {cls:=.type "tuple_iterator",data:=.fields (bV [.ref l,.int 0 0])}).push {cls:=.type "enumerate",data:=.fields (bV [.none,.bool Zm,.ref s.heap.objs.size,cN 0,.none,.none])}) (s.heap.objs.size+1) s.heap.objs.size 0 .none:=by have:=Zx (s.heap.push {cls:=.type "tuple_iterator",data:=.fields (bV [.ref l,.int 0 0])}) (o:={cls:=.type "enumerate",data:=.fields (bV [.none,.bool Zm,.ref s.heap.objs.size,cN 0,.none,.none])}) rfl;rw[j]at this;show this
 show#[#[_,k,rfl],h _ k #[_,Zj _<|Zx _ rfl,rfl,rfl] λb o x=>Zj _<|Zj _ x]
end
section
variable{J:aN}{X:Cx}
def qS(K:W.Frag)(a:ZD):It:=#[λi H=>∃xs x,eJ K H a xs/\xs[i]?=M x,λi H y H'=>∃p x,H p=Z/\y=.ref p/\H'=upd H p (.tup [.int (i:Int),x])/\∀xs,eJ K H a xs->xs[i]?=M x,λi H=>∃xs,eJ K H a xs/\xs.length<=i]
theorem TJ{P:ZW}{w:bo}{K:W.Frag}{es:Td}{k:Nat}{p:Pos}(a it e:ZD)(D:e≠it):Turn P w K (.Tuple es k p) (qS K a) [e,it] e (λi h=>(∃m,IsEnum h e it (i:Int) m)/\h.IsTupleIter it a i) where
 mem:=03
 obj:=λi h st b R=>by
  let#[#[m,B],o,e1,c,d]:=st;simp![ZC,eZ,or_false]at R;rcases R with rfl|rfl
  .show#[_,B,λv z=>by have z':Data.fields _=wb v:=z;cases z']
  .show#[o,e1,λv z=>by rw[d]at z;cases z]
 keep:=λi h h' st k=>#[let ⟨m,B⟩:=st.1;#[m,k e 03 _ B],st.2.at λo e=>k it 03 o e]
 item:=by
  intro X hP hw hK hc i V s U H E I S st hg;subst hP hw hK;let#[#[m,B],C]:=st;let#[xs,x,Y,hx]:=hg;let#[j,rv,pl,hz]:=I.tuple Y;have J:s.heap.IsTuple a j.toArray:=pl;let#[u,hu,ru]:=rv.get hx;have fe:=S e 03;have fi:=S it 03;let#[oi,O,ci,di]:=id C;have nea:a≠it:=λz=>by
   let#[oa,ha,ca,_]:=J;rw[z,O]at ha;cases ha;rw[ci]at ca;injection ca with z1
   show absurd z1 01
  have nee:e∉[it,a]:=λz=>by
   simp![ZC,eZ,or_false]at z;rcases z with z|z
   .show D z
   .let#[oa,ha,ca,_]:=J;have F:s.heap.get? e=M _:=B;rw[<-z,F]at ha;cases ha;injection ca with z1
    show absurd z1 01
  have lti:i<j.toArray.size:=by have:=(Zs.mp hu).1;simpa using this
  refine wpAny_pyNext_enum_itemD (TC (A:=X.A.in1) (I.ok.hd hc) it a nea j.toArray) B #[C,J] lti D nee λy h' tk hy F st' ht hsz kk=>?_
  have ey:y=u:=by
   have h2:j[i]?=M y:=by simpa using hy
   rw[hu]at h2;cases h2;rfl
  subst ey;have Q:=st'.1;calc#[_,rfl,EM F λh2 he2 sb=>?_];have lA:=Z3 B;let#[o,q,r]:=Q;let#[I1,f1]:=G0 (t':=tk+1) I fe fi lA (Z3 O) (λb o h1 h3 q=>(sb.2 b h1).trans<|kk b o h1 h3 q) ((sb.2 _<|dH lA).trans ht) ru;show#[.ref s.heap.objs.size,_,I1,rfl,#[s.heap.objs.size,x,I.aA.fresh<|Zk _,rfl,rfl,λys hy=>by rw[I.gu hy Y];show hx],#[#[_,he2],o,(sb.2 it<|ZV D).trans q,r],f1]
 done:=by intro X hP hw hK hc i V s U H E I S st hg;subst hP hw hK;let#[#[m,B],C]:=st;let#[xs,Y,hx]:=hg;let#[j,rv,p,hz]:=I.tuple Y;let#[f0,f1,f2,f3,f4,f5]:=S it 03;have hl:=rv.length;have J:s.heap.IsTuple a j.toArray:=p;show wpAny_pyNext_enum_endD (TF (A:=X.A.in1) (I.ok.hd hc) it a i j.toArray<|by simp;show Zb (Zg hl.symm) hx) B #[rfl,C,J] λh' eb=>#[rfl,I.turned (t':=s.toks) (λb o R e=>eb b o R e) f0 f1 f3 f4 f5]
 self:=λ_ _ _ _ _ st h=>let ⟨_,B⟩:=st.1;vq B h
def QJ:Tw->IH->Res ky|[.tup xs],h=>.ok #[Qn 0 xs,λ_=>True] h|O,h=>Vz O h
def TK(ha:eJ X.K H₀ a O)(r:aC X.K Y H₀ xs O):gY J X.K Y H₀ (qS X.K a) #[Qn 0 xs,λ_=>True]:=by
 refine#[λk v h H S hp R m hx=>?_,λk h H S hp R m hx=>?_]
 .have j:(Qn 0 xs)[k]?=M v:=hx;rw[Y0]at j;let#[x,D,rfl]:=ZL.mp j;have P:=aC.mono hp _ _ r;have sa:=hp.ext.ur ha;let#[u,F,I]:=P.get D;calc#[#[O,u,sa,F],λy V B=>?_];let#[p,U,C,rfl,rfl,B]:=B;have:=B O sa;rw[F]at this;cases this;let#[Q,E]:=R.grow (o:=.tup [.int (k:Int),u]) C;calc#[Q,E,p,_,rfl,eJ.of J4,#[_,_,rfl,?_,_,_,rfl,RV.mono E _ _ I,rfl]];change bC.int (k:Int)=bC.int ((0+k:Nat):Int);simp
 .show#[O,hp.ext.ur ha,by rw[r.length,<-Ve xs 0];show hx]
def TL(R:Gl X "enumerate")(hm:X.mg "enumerate"=Z)(ha:e9 J X [a] ma)(hs:ZZ [a] X.env=[(Zm,bN a X.env)]:=by rfl):jX J X (.Tuple es kt pt) (.Call (.Name "enumerate" p) [a] [] pos) (dM QJ ma):=by
 intro V s U H Y m h Q E N K;by_cases P:∃xs B,ma m h=.ok [.tup xs] B
 .let#[xs,B,C]:=P;calc Call_<|Q2 N.inv R hm boot_enumerate<|qq ?_ hs rfl;calc ha pos V s U H Y m h _ E N ?_;unfold dM at K;rw[C]at K ⊢;intro us k H1 U1 j n1 r1;let#[ws,rv,W]:=r1;let#[w,e1,q]:=W.bS;subst e1;let#[b,O,rfl,sb,rb]:=q;let#[u,rfl,ru]:=Q3 rv;cases ru;let#[F,rv2,pl,hz]:=j.inv.tuple sb;refine TH (show k.heap.IsTuple b F.toArray from pl) λh2 S D kp=>?_
  calc vq S<|K _ _ H1 U1 #[j.inv.kept (t':=k.toks) kp,j.rel,j.st] n1 ?_;calc#[k.heap.objs.size+1,[k.heap.objs.size+1,k.heap.objs.size],_,qS X.K b,rfl,TJ b k.heap.objs.size (k.heap.objs.size+1)<|dH<|ZY _,#[#[_,S],D],λc I=>?_,TK sb rb];simp![ZC,eZ,or_false]at I;rcases I with rfl|rfl
  .show j.inv.dz (gi _)<|j.inv.aA.fresh<|gi _
  .show j.inv.dz (Zk _)<|j.inv.aA.fresh<|Zk _
 .calc Sm (es:=es) (kt:=kt) (pt:=pt) R hm ha hs V s U H Y m h Q E N ?_;have e:dM Vz ma m h=dM QJ ma m h:=by
   unfold dM;cases C:ma m h with
   |ok O B=>
    change Vz O B=QJ O B;unfold QJ;split
    .show absurd #[_,_,C] P
    .rfl
   |_=>rfl
  rw[e];show K
end
noncomputable def Vk (a:tu):Ww:=match a with| {posonlyargs:=[],args:=[p],vararg:=Z,kwonlyargs:=[],kw_defaults:=[],kwarg:=Z,defaults:=[]}=>M p.arg|_=>Z
noncomputable abbrev oH (q:Str):Str:=q++".<locals>."++"<lambda>"
abbrev i6(q:Str)(params:tu)(body:Expr)(scope:eO)(cl:Wp)(pm ctv:Zu)(c:ZD):Obj:=W.kla_obj "<lambda>" (oH q) params body scope cl pm c ctv
def QE(mg:Str->Ta)(base:bp):Prop:=∃bm ob,mg "__builtins__"=M (.ref bm)/\bm≠pz/\bm≠ZJ/\base.get? bm=M ob/\ob.cls=.type "module"/\ob.dict=M pz/\ob.data=.plain
def QP.rec(l:QP H q cv)(aA:dk P w H h):h.CodeRec cv (oH q):=by let#[c,j,O,t,k,B,m,C]:=l;show#[c,j,O,t,k,(aA c _ B).1,m,C]
def QP.mono(j:∀b o u,H b=M (.cI o u)->H' b=M (.cI o u))(l:QP H q cv):QP H' q cv:=by let#[c,k,O,t,B,m,r]:=l;show#[c,k,O,t,B,j _ _ _ m,r]
theorem Hf:∀(l:Tu),TriplesOk l->rZ pos (l++[cN a,cN b,c])=M cv->rZ pos l=M cv\/cv=c
 |[],_,e=>by
  simp![mZ,cN,rZ]at e;split at e
  .cases e;show .inr rfl
  .cases e
 |.int x t::.int y u::z::rest,h,e=>by
  simp![j8,rZ]at e ⊢;split at e
  .rename_i j;rw[if_pos j];show .inl e
  .rename_i j;rw[if_neg j];show Hf rest h e
 |[.int _ _],h,_=>(h).elim
 |[.int _ _,.int _ _],h,_=>(h).elim
section
variable{J:aN}{X:Cx}
def aG.hV{V:bf}(N:aG J X V Y bF h U H s)(e:s.heap.get? f=M fo)(F:aH X V H f)(d:∀v,fo.data≠.cell v):aG J X (V++[(f,fo)]) Y bF h U H s:=by
 have I:=N.inv.pinned (λb j=>by rw[ZE.mp j];show F) (λb j=>by rw[ZE.mp j];show#[fo,e,d]);have k:QM [f] s.heap=[(f,fo)]:=by simp[QM,e]
 rw[k]at I;show#[I,N.rel,N.st]
def Hg{j:Nat}
  (N:aG J X V Y bF h U H s)(hj:h[j]?=M (.tab q))(hcd:W.codeIn X.K X.env.code q=Zl)(hq:X.env.qual=q++".<locals>.")(hdef:defaultsOf params X.env=([],[]))(hcl:tq scope X.env=pure cl)(B:QE X.mg X.base)
  (K:∀f c pm D s' H',aG J X (V++[(f,i6 q params body scope cl pm D c)]) Y bF h U H' s'->bj Y H Y H'->QP H' q (.ref c)->Q (.ref f) s'):
  ZB (Z4 X.prog X.w) X.A (bN (.Lambda params body scope pos) X.env) Q E s:=by
 let#[a,ha,hc,ps,S,ht,F]:=N.rel.at_ j _ hj;let#[c,ec,hhd]:=hc _ hcd;have I:=N.inv;have C:=W.codeHd_of_K I.dQ hhd;have gP:s.heap.get? a=M (W.tabObj ps):=I.aA a _ S;have hg:s.heap.Ns ZJ X.mg:=I.ok.mod.glob.keeps I.bk;let#[bm,ob,b1,b2,b3,b4,b5,b6,b7]:=B;have gb:=I.bs bm ob b4;have nba:bm≠a:=λz=>by rw[z,S]at gb;cases gb.2
 have k:s.heap.BuiltinsAt X.mg a:=#[bm,ob,b1,b2,b3,nba,gb.1,b5,b6,b7];have nga:ZJ≠a:=λz=>by let#[o,es,ep,e,d,_]:=hg;rw[z,gP]at e;cases e;cases d
 calc W.kla_eval hdef ?_;rw[hq];cases ea:rZ pos ps.toList with
 |some cv=>
  have LC:=F pos cv ea;let#[P,oc,O,t,ecv,_]:=id LC;subst ecv;refine W.kla_makeFunctionHit hcl I.ok.glob hg ec C gP ht ea k λD h' tk hk hsz=>?_
  have I1:=I.kept (h':=h'.push<|i6 q params body scope cl ((X.mg "__name__").getD .none) D P) (t':=tk) λb o e=>Zj _<|hk b o e
  have N1:aG J X V Y bF h U H _:=#[I1,N.rel,N.st];show K h'.objs.size P _ D _ H (N1.hV (Zx _ rfl) (I.dz hsz<|I.aA.fresh hsz) λv z=>by have z':Data.func _=wb v:=z;cases z') .refl LC
 |none=>
  refine W.kla_makeFunction hcl I.ok.glob hg ec C gP ht ea nga k λP D h' tk hx hge hlt hrec htb=>?_
  let#[c2,oc,O,t,e2,hoc,hd,hv]:=hrec;cases e2;generalize hps:ps++(bV [cN pos.line,cN pos.col,.ref P])=ps' at htb;generalize hob:i6 q params body scope cl ((X.mg "__name__").getD .none) D P=fo;have fc:H P=Z:=I.aA.fresh hge;have nca:P≠a:=λz=>by rw[z,S]at fc;cases fc
  have lts:s.heap.objs.size<=h'.objs.size:=Zb hge<|Zo hlt;obtain⟨H',hH⟩:∃H',H'=upd (upd H a<|.iP ps') P (.cI oc<|.own 0):=#[_,rfl];have Ha:H' a=M (.iP ps'):=by rw[hH,Jw<|ZV nca,J4]
  have Hc:H' P=M (.cI oc<|.own 0):=by rw[hH,J4]
  have Ho:∀b,b≠a->b≠P->H' b=H b:=λb h1 h2=>by rw[hH,Jw h2,Jw h1]
  have kp:∀b o,b≠a->s.heap.get? b=M o->(h'.push fo).get? b=M o:=λb o k e=>Zj _<|hx b o k e
  have ga:(h'.push fo).get? a=M (W.tabObj ps'):=Zj _ htb;have cI:∀b o u,H b=M (.cI o u)->H' b=M (.cI o u):=λb o u e=>by rw[Ho b (λz=>by rw[z,S]at e;cases e) λz=>by rw[z,fc]at e;cases e];show e
  have tup:∀b xs,H b=M (.tup xs)->H' b=M (.tup xs):=λb xs e=>by rw[Ho b (λz=>by rw[z,S]at e;cases e) λz=>by rw[z,fc]at e;cases e];show e
  have own:∀b x,H b=M (.own x)->H' b=M (.own x):=λb x e=>by rw[Ho b (λz=>by rw[z,S]at e;cases e) λz=>by rw[z,fc]at e;cases e];show e
  have I1:Inv X V U H' {s with heap:=h'.push fo,toks:=tk}:=by
   refine I.step (g':=s.gens) (d':=s.drawn) (ch:=[]) (λb k=>absurd k 03) (λb o _ _ _ e n=>kp b o (λz=>by rw[z,S]at n;cases n) e) (λb o _ _ _ e n=>#[o.slots,kp b o (λz=>by rw[z,S]at n;cases n) e]) (λb o _ e n=>?_) (λb o _ e=>?_) tup cI (λb qs e=>?_) (λm hm=>?_) (λb u e=>?_) I.bare
   .rw[Ho b (λz=>by rw[z,S]at n;cases n)<|Zw<|Zr (Z3 e) hge];show n
   .by_cases k:b=a
    .subst k;show#[_,ga]
    .show#[o,kp b o k e]
   .by_cases k:b=a
    .subst k;rw[S]at e;cases e;show#[_,by rw[Ha,<-hps]]
    .show#[#[],by rw[Ho b k (λz=>by rw[z,fc]at e;cases e),e];simp]
   .let#[o,es,ep,ho,r]:=hm;show#[o,es,ep,kp _ o (λz=>by have:=I.free;rw[z,S]at this;cases this) ho,r]
   .by_cases k:b=a
    .subst k;rw[Ha]at e;cases e;show ga
    .by_cases hb2:b=P
     .subst hb2;rw[Hc]at e;cases e;show#[Zj _ hoc,_,Zj _ hoc]
     .rw[Ho b k hb2]at e;calc(I.aA b u e).fm (λd v hd r=>kp d v (λz=>?_) r) (λd z=>own d _ z) tup;subst z;rcases hd with z|z
      .show k z.symm
      .rw[S]at z;cases z
  have n:bj Y H Y H':=#[#[[],03],#[tup,cI]];have LC:QP H' q (.ref P):=#[P,oc,O,t,rfl,Hc,hd,hv];have R:Rel J X.K Y h H':=by
   calc#[N.rel.len,N.rel.nd,λi o e=>?_];let#[b,eb,ro]:=N.rel.at_ i o e;calc#[b,eb,?_];by_cases k:b=a
   .subst k;have hij:i=j:=N.rel.inj eb ha;subst hij;rw[hj]at e;cases e;refine#[hc,ps',Ha,?_,λpos' cv ea'=>?_]
    .rw[<-hps,iB];show TriplesOk_snoc _ _ _ _ ht
    .rw[<-hps,iB]at ea';rcases Hf ps.toList ht ea' with z|z
     .show(F pos' cv z).mono cI
     .rw[z];show LC
   .refine ro.mono n λu hu=>?_
    rw[Ho b k λz=>by rw[z,fc]at hu;cases hu];show hu
  have N1:aG J X V Y bF h U H' _:=#[I1,R,N.st.mono n];subst hob;show K h'.objs.size P _ D _ H' (N1.hV (Zx _ rfl) (I.dz lts<|by rw[Ho _ (dH<|Zr (Z3 gP) lts)<|dH hlt];show I.aA.fresh lts) λv z=>by have z':Data.func _=wb v:=z;cases z') n LC
end
abbrev qT(q:Str)(scope:eO)(L f:ZD)(cd:Zu)(cl:Wp):Env:=newEnv scope L ZJ cl (oH q++".<locals>.") (M f) cd Z pz
def oJ(X:Cx)(A:bM)(N':Tj)(q:Str)(scope:eO)(f:ZD)(cd:Zu)(s:Zy)(H:Hp):Cx:={X with A:=A.deeper<|qT q scope s.heap.objs.size f cd<|cy X.env.cells scope.names [],N:=N',s₀:=s,H₀:=H,env:=qT q scope s.heap.objs.size f cd<|cy X.env.cells scope.names [],outer:=X.stack,stack:=qT q scope s.heap.objs.size f cd (cy X.env.cells scope.names [])::X.stack,ex:=[],calm:=Zl,fn:=λ_=>Zm,pn:=[],xe:=λ_ _=>False}
structure jY(N0:Tj)(sc₀:Wi)(x:Str)(caps:Tj)(js:Tp)(scope:eO):Prop where
 kind:scope.kind=.function
 co:scope.isCoroutine=Zm
 gen:scope.isGenerator=Zm
 mj:∀y∈scope.names,y.2≠.cell
 par:scope.names.lookup x=M .local
 free:∀y∈scope.names,y.2=.free->sc₀.lookup y.1=M .cell
 fr:∀y,scope.names.lookup y=M .free->(y,.free)∈scope.names
 TM:∀(k j:Nat)(y:Str),js[k]?=M j->caps[k]?=M y->N0[j]?=M y/\scope.names.lookup y=M .free
 len:js.length=caps.length
 nd:(x::caps).Nodup
def TN:tD (W.kla_fn nm qu {posonlyargs:=[],args:=[p],vararg:=Z,kwonlyargs:=[],kw_defaults:=[],kwarg:=Z,defaults:=[]} body scope cl pm cd ctv) #[[u],[]]=pure [(p.arg,u)]:=by have e:(sv p.arg [(p.arg,u)]).isNone=Zm:=03;unfold tD;simp[tx,e];rfl
section
variable{J:aN}{X:Cx}
def Hh (hA:A.frames=M X.stack)(hr:aY (k+1) A)(N:aG J X V Y bF h U H s)(hf:s.heap.get? f=M (i6 q params body scope (cy X.env.cells scope.names []) pm ctv c))(LC:QP H q<|.ref c)(hx:Vk params=M x)(S:jY X.N X.env.scope.names x caps js scope) (hb:∀s' H',ar J (oJ X A (x::caps) q scope f (.ref c) s' H') body m)(ru:RU X.K Y H v u)(K:Kont J X RU V Y bF U H ((m (M v::js.map λj=>(bF[j]?).join) h).nx) Q E):ZB (Z4 X.prog X.w) A (call (.ref f) [u]) Q E s:=by
 have I:=N.inv;have P:=I.qI;have lim:s.heap.NoLimit:=P.mod.nolimit.keeps λb o e=>(P.bs b o e).1
 calc vB<|W.kla_callFunE hr.depth hf rfl S.co S.gen rfl (LC.rec I.aA) ?_;have O:tD (W.kla_fn "<lambda>" (oH q) params body scope (cy X.env.cells scope.names []) pm (.ref c) ctv) #[[u],[]]=pure [(x,u)]:=by
  unfold Vk at hx;split at hx
  .cases hx;show TN
  .cases hx
 rw[O];calc Zp (wpAny_newFunctionEnv S.mj (λy hy=>by rw[ZE.mp hy];show S.par) (λh3 hns hsb=>#[lim.fresh _ hsb,?_]) S.kind);let#[w,rw',qw]:=ru;have keep:∀b o,s.heap.get? b=M o->h3.get? b=M o:=λb o z=>(hsb.2 b<|Zw<|Z3 z).trans<|Zj _ z
 have B:∀y d,(cy X.env.cells scope.names []).lookup y=M d->X.env.cells.lookup y=M d:=AX _ _ (λy d z=>by simp at z);have okX:(oJ X A (x::caps) q scope f (.ref c) s H).Ok:=by
  have iS:∀b:ZD,b∉(oJ X A (x::caps) q scope f (.ref c) s H).ex:=λb z=>absurd (show b∈([]:Tv)from z) 03
  calc#[I.ok.mod,S.kind,rfl,rfl,Zk _,λy y' d a b=>I.ok.inj y y' d (B y d a)<|B y' d b,λy hy=>?_,λy d z=>absurd (show Zm=Zl from z) Zz,λ_=>hr.hd,Around.frames_deeper hA,.inr #[rfl,rfl],λb z=>absurd z<|iS b,P.bs,P.lT,λb _ _=>iS b,λb z=>absurd z<|iS b,P.dS,P.oh];have hy':=hy;rcases hy' with z|z
  .show absurd rfl (S.mj _<|j3 z)
  .have hm:=j3 z;let#[d,hd]:=I.ok.has y<|.inl<|S.free (y,.free) hm rfl;show sW.mp<|Yu _ _ y d hm hd
 have I3:Inv (oJ X A (x::caps) q scope f (.ref c) s H) [] (M w::js.map λj=>(U[j]?).join) H {s with heap:=h3,toks:=s.toks+[(x,u)].length}:=by
  refine#[okX,rfl,I.bare,Un.kept keep,#[_,hns,λi y z a b cc=>?_],λy d z=>?_,I.aA.fresh<|Zk _,λy d z=>I.cg y d<|B y d z,λp hp=>absurd (show p∈([]:bf)from hp) 03,I.aA.kept keep,by change _=(x::caps).length;simp[S.len]]
  .cases i with|zero=>have C:M x=M y:=a;cases C;have D:M (M w)=M (M z):=b;cases D;show#[u,rw',.inl #[S.par,03]]|succ i=>
    have C:caps[i]?=M y:=a;have D:(js.map λj=>(U[j]?).join)[i]?=M (M z):=b;rw[ZI]at D;cases F:js[i]? with|none=>rw[F]at D;cases D|some j=>
     rw[F]at D;have b2:(U[j]?).join=M z:=gJ D;have hZ:U[j]?=M (M z):=by cases es:U[j]? with|none=>rw[es]at b2;cases b2|some o=>rw[es]at b2;rw[show o=M z from b2]
     let#[hx1,hx2]:=S.TM i j y F C;have hm:=j3 hx2;have hk:=S.free (y,.free) hm rfl;let#[m0,hn,hl]:=I.loc;let#[u',ru',lk]:=hl j y z hx1 hZ<|.inr<|.inl hk;rcases lk with⟨e,_⟩|⟨e,d,hd,hcell⟩
     .have hk':X.env.scope.names.lookup y=M .cell:=hk;have e':X.env.scope.names.lookup y=M .local:=e;rw[hk']at e';cases e'
     .let#[d',R]:=sW.mp<|Yu (cells:=X.env.cells) scope.names [] y d hm hd;have:=B y d' R;rw[hd]at this;cases this;let#[oc,hoc,hdd]:=hcell;show#[u',ru',.inr #[.inr hx2,d,R,oc,keep _ _ hoc,hdd]]
  .let#[z',o,ho,hd]:=I.cell y d<|B y d z;show#[z',o,keep _ _ ho,hd]
 have N3:aG J (oJ X A (x::caps) q scope f (.ref c) s H) [] Y (M v::js.map λj=>(bF[j]?).join) h (M w::js.map λj=>(U[j]?).join) H {s with heap:=h3,toks:=s.toks+[(x,u)].length}:=by
  calc#[I3,N.rel,03,λi z a=>?_];cases i with|zero=>have C:M (M v)=M (M z):=a;cases C;show#[w,rfl,qw]|succ i=>
   have C:(js.map λj=>(bF[j]?).join)[i]?=M (M z):=a;rw[ZI]at C;cases F:js[i]? with|none=>rw[F]at C;cases C|some j=>
    rw[F]at C;have a2:(bF[j]?).join=M z:=gJ C;have hZ:bF[j]?=M (M z):=by cases es:bF[j]? with|none=>rw[es]at a2;cases a2|some o=>rw[es]at a2;rw[show o=M z from a2]
    let#[z',ez,qz]:=N.st.2 j z hZ;calc#[z',?_,qz];change(js.map λj=>(U[j]?).join)[i]?=M (M z');rw[ZI,F];change M ((U[j]?).join)=_;rw[ez];rfl
 refine W.kla_codeExpr<|d6 (hb s H [] _ _ H Y _ h (λu' s'=>Q u' s') (λ_ _=>False) N3 ?_) (λ_ _ z=>z) λ_ _ z=>z.elim
 cases er:m (M v::js.map λj=>(bF[j]?).join) h with|ok v' h'=>rw[er]at K;intro u' s' H' Y' N' n' ⟨z,rz,qz⟩;have bB:=N'.inv;let#[_,_,I',rz',e1,e2]:=I.after (Q:=λz2 H2=>z2=z/\H2=H') #[z,H',bB.os,bB.bare,bB.base,bB.aA,rz,rfl,rfl];subst e1;subst e2;show K u' s' _ Y' #[I',N'.rel,N.st.mono n'] n' #[_,rz',qz]|exc n h'=>rw[er]at K;show Zf K|stuck=>rw[er]at K;show Zf K
end
def Vj(gt:IV->IV->Wv)(mk:IV->IH->Res IV)(i n:Nat):Nat->IV->IV->IH->Res IV|0,b,_,h=>(match h[i]? with|some (.lst ys)=>if ys.length=n then .ok b h else .stuck|_=>.stuck)|r+1,b,kb,h=>(match h[i]? with|some (.lst ys)=>if ys.length=n then(match ys[n-(r+1)]? with|some y=>(mk y h).nx.bind λk h'=>(match gt k kb with|some Zl=>Vj gt mk i n r y k h'|some Zm=>Vj gt mk i n r b kb h'|none=>.stuck)|none=>.stuck)else .stuck|_=>.stuck)
def Xo(gt:IV->IV->Wv)(mk:IV->IH->Res IV)(i:Nat)(d:Te)(h:IH):Res IV:=match h[i]? with|some (.lst ys)=>(match ys[0]? with|some y=>(mk y h).nx.bind λk h'=>Vj gt mk i ys.length (ys.length-1) y k h'|none=>(match d with|some d=>.ok d h|none=>.stuck))|_=>.stuck
def aH.more(F:aH X V H b)(ne:p.1≠b):aH X (V++[p]) H b:=by
 calc#[F.1,F.2.1,F.2.2.1,F.2.2.2.1,F.2.2.2.2.1,λq j=>?_];rcases ZQ.mp j with z|z
 .show F.2.2.2.2.2 q<|iL _ z
 .rcases ZQ.mp z with z|z
  .show F.2.2.2.2.2 q<|Zt _ z
  .rw[ZE.mp z];show ne
theorem aH.at(F:aH X V H b)(n:H' b=Z):aH X V H' b:=#[n,F.2]
def Bb{i:Nat}(r:Vals xs us)(e:us[i]?=M u):∃x,xs[i]?=M x/\RelV x u:=by have D:=(Zs.mp e).1;have m:=r.length;have j:i<xs.length:=Zb D<|Zg m.symm;have hx:=Zh j;let#[B,k,q]:=r.get hx;rw[e]at k;cases k;show#[_,hx,q]
section
variable{J:aN}{X:Cx}
theorem aG.turned{V:bf}(N:aG J X V Y bF h U H s)(F:aH X V H it)(k:∀b o,b≠it->s.heap.get? b=M o->h'.get? b=M o):aG J X V Y bF h U H {s with heap:=h',toks:=t'}:=#[N.inv.turned k F.1 F.2.1 F.2.2.2.1 F.2.2.2.2.1 F.2.2.2.2.2,N.rel,N.st]
theorem aG.jZ{V:bf}(N:aG J X V Y bF h U H s)(k:∀b o,s.heap.get? b=M o->h'.get? b=M o):aG J X V Y bF h U H {s with heap:=h',toks:=t'}:=#[N.inv.kept k,N.rel,N.st]
def mq(J:aN)(X:Cx)(A:bM)(op:CmpOp)(gt:IV->IV->Wv):Prop:=∀(V:bf)(Y:Tv)(bF:aE)(h:IH)(U:L2.St)(H:Hp)(s:Zy)(k kb:IV)(u ub:Zu)(b:Bool)(Q:aL)(E:aL),aG J X V Y bF h U H s->RU X.K Y H k u->RU X.K Y H kb ub->gt k kb=M b ->(∀h' t',(∀a o,s.heap.get? a=M o->h'.get? a=M o)->Q (.bool b) {s with heap:=h',toks:=t'})->ZB (Z4 X.prog X.w) A (vz op u ub) Q E s
def Yp(J:aN)(X:Cx)(A:bM)(bF:aE)(U:L2.St)(V:bf)(G:Hp->Prop)(fv:Zu)(mk:IV->IH->Res IV):Prop:=∀(pl:bf)(s:Zy)(H:Hp)(Y:Tv)(h:IH)(v:IV)(u:Zu)(Q:aL),aG J X (V++pl) Y bF h U H s->G H->RU X.K Y H v u->Kont J X RU (V++pl) Y bF U H (mk v h).nx Q (λ_ _=>False) ->ZB (Z4 X.prog X.w) A (call fv [u]) Q (λ_ _=>False) s
def Bc{R:ow α Zu}{R':ow γ Zu}{r:Res α}{g:α->IH->Res γ} (K:Kont J X R' V Y bF U H (r.nx.bind g) Q E) (step:∀x h1 u s1 H1 j,aG J X (V++pl) j bF h1 U H1 s1->bj Y H j H1->R X.K j H1 x u->Kont J X R' V j bF U H1 (g x h1) Q E->Q1 u s1):Kont J X R (V++pl) Y bF U H r.nx Q1 (λ_ _=>False):=by cases r with|ok v m=>show λu D C F B k q=>step v m u D C F B k q<|Kont.mono K k|exc n m=>show(K).elim|stuck=>show(K).elim
section
variable{A:bM}{R:se->Zy->Prop}{Q E:aL}{V:bf}{bF:aE}{U:L2.St}{G:Hp->Prop}{fq:ZD}{mk:IV->IH->Res IV}{gt:IV->IV->Wv}{i n:Nat}{l I C:ZD}{kw:Wm}
def TQ(bA:Mm nm L op)(hh:A.handled=Z)(cm:mq J X A.in1 op gt)(ko:Yp J X A.in1 bF U V G (.ref fq) mk)(hG:∀H H',Ext H H'->G H->G H')(hR:∀v s',Q v s'->R (.ok<|.ret v) s')(O:I≠C):
  ∀(r j:Nat)(z:Zy)(H:Hp)(Y:Tv)(h:IH)(b kb:IV)(vb F:Zu)(c:Nat),n-j=r->0<j->j<=n->aG J X V Y bF h U H z->G H->Y[i]?=M l->aH X V H I->aH X V H C->z.heap.IsListIter I l j ->
   z.heap.get? C=M (bc "list" (bV [vb,F]) c)->RU X.K Y H b vb->RU X.K Y H kb F->Kont J X RU V Y bF U H (Vj gt mk i n r b kb h) Q E ->
   j6 (Z4 X.prog X.w) A (.builtin L #[[.ref I,.ref fq,.ref C],kw]) R z:=by
 intro r;induction r with
 |zero=>
  intro j z H Y h b kb vb F c hr h0 hj N g D fI fC st gC rb rk K;obtain rfl:j=n:=05;unfold Vj at K;cases eh:h[i]? with|none=>rw[eh]at K;show Zf K|some ob=>
   rw[eh]at K;cases ob with
   |lst ys=>
    dsimp only at K;split at K
    .rename_i B;let#[ws,e1,r3]:=N.at eh D;let#[m,P,pl,_]:=N.inv.list<|b8.of e1;have ne:l≠I:=λq=>by have:=fI.1;rw[<-q,e1]at this;cases this
     have sz:m.toArray.size=j:=by rw[fN,<-P.length,r3.length,B]
     have W:=qC (prog:=X.prog) (w:=X.w) (A:=A.in1) hh I l ne m.toArray;calc jQ bA.en ?_;rw[lR bA.pl _];change ZB _ A.in1 (tx (.ref C)>>=_) _ _ z;calc Ze<|nN gC rfl ?_;calc Ze (kR<|W.done z _ _ #[by rw[sz];show st,pl.isList] λh2 tk keep=>?_);have gC2:=keep C _ (λq=>O (ZE.mp q).symm) gC;have N1:=N.turned (h':=h2) (t':=tk) fI λb o hb e=>keep b o (λq=>hb<|ZE.mp q) e
     change ZB _ A.in1 (updateSeq C (λ_=>#[])>>=_) _ _ _;calc Ze ?_;calc rP gC2 rfl (Ze<|nO<|Zp ?_);have N2:=N1.turned (h':=h2.update C<|dt λ_=>#[]) (t':=tk) fC λb o hb e=>(Z9 _ _<|ZV hb).trans e
     show hR _ _<|K _ _ _ _ N2 .refl rb
    .show Zf K
   |_=>show Zf K
 |succ r ih=>
  intro j z H Y h b kb vb F c hr h0 hj N g D fI fC st gC rb rk K;unfold Vj at K;cases eh:h[i]? with|none=>rw[eh]at K;show Zf K|some ob=>
   rw[eh]at K;cases ob with
   |lst ys=>
    dsimp only at K;split at K
    .rename_i B;let#[ws,e1,r3]:=N.at eh D;let#[m,P,pl,_]:=N.inv.list<|b8.of e1;have ne:l≠I:=λq=>by have:=fI.1;rw[<-q,e1]at this;cases this
     have sz:m.toArray.size=n:=by rw[fN,<-P.length,r3.length,B]
     have ej:n-(r+1)=j:=by(rw[<-(by assumption:_-_=_+1)];show sX 06)
     rw[ej]at K;have W:=qC (prog:=X.prog) (w:=X.w) (A:=A.in1) hh I l ne m.toArray;calc jQ bA.en ?_;rw[lR bA.pl _];change ZB _ A.in1 (tx (.ref C)>>=_) _ _ z;calc Ze<|nN gC rfl ?_;calc Ze (kR<|W.item j z _ _ (by rw[sz];show rF 06) #[st,pl.isList] λy h2 tk hP st2 keep=>?_);have ey:m[j]?=M y:=by simpa using hP
     let#[x,ex,rx]:=Bb P ey;let#[yv,eyv,qy]:=r3.get' ex;rw[eyv]at K;dsimp only at K;have gC2:=keep C _ (λq=>O (ZE.mp q).symm) gC;have N1:=N.turned (h':=h2) (t':=tk) fI λb o hb e=>keep b o (λq=>hb<|ZE.mp q) e
     let#[oI,hoI,hoc,hod]:=id st2.1;have N2:=(N1.hV gC2 fC λv z=>by cases z).hV hoI (aH.more (p:=(C,bc "list" (bV [vb,F]) c)) fI<|ZV O) λv z=>by rw[hod]at z;cases z
     rw[iz]at N2;refine Ze<|kR<|fh<|oB<|ko _ _ _ _ _ yv y _ N2 g #[x,rx,qy]<|Bc K λk h3 u s3 H3 W3 N3 n3 ru K3=>?_
     have pC:=N3.inv.pin (C,bc "list" (bV [vb,F]) c)<|Zt _<|Zt _ 03;have pI:=N3.inv.pin (I,oI)<|Zt _<|Zt _ 03;have N4:=N3.pins;have hi3:=n3.at D;have g3:=hG _ _ n3.ext g;have fI3:=aH.at (H':=H3) fI pI.2.1;have fC3:=aH.at (H':=H3) fC pC.2.1;have it3:s3.heap.IsListIter I l (j+1):=#[oI,pI.1,hoc,hod];have ry3:RU X.K W3 H3 yv y:=RU.mono n3 #[x,rx,qy];cases eg:gt k kb with|none=>rw[eg]at K3;show Zf K3|some bb=>
      change ZB _ A.in1 (tryCatch (lH [y,u]<|vz op u F>>=_) _>>=_) _ _ _;refine Ze<|kR<|fh<|Ze<|cm _ _ _ _ _ _ _ k kb u F bb _ _ N4 ru (rk.mono n3) eg λh5 t5 k5=>?_
      calc Ze<|fh<|qb ?_;calc Ze<|nO<|Zp ?_;have N5:=N4.jZ (h':=h5) (t':=t5) k5;have gC5:=k5 _ _ pC.1;let#[oI5,S,hoc5,hod5]:=id it3;have it5:h5.IsListIter I l (j+1):=#[oI5,k5 _ _ S,hoc5,hod5];rw[eg]at K3;cases bb with
      |true=>
       simp![if_true];calc Ze ?_;calc rP gC5 rfl (Ze<|nO ?_);rw[bA.nm];have N6:=N5.turned (h':=h5.update C<|dt λ_=>(bV [y,u])) (t':=t5) fC3 λb o hb e=>(Z9 _ _<|ZV hb).trans e
       obtain⟨c2,hc2⟩:∃c2,(h5.update C<|dt λ_=>(bV [y,u])).get? C=M (bc "list" (bV [y,u]) c2):=#[_,nc gC5 λ_=>(bV [y,u])];calc Zp #[jR bA.pl _,ih (j+1) _ H3 W3 h3 yv k y u c2 (congrArg rM hr) (iI _) (rF 06) N6 g3 hi3 fI3 fC3 ?_ hc2 ry3 ru K3];show#[oI5,(Z9 _ _<|ZV O).trans<|k5 _ _ S,hoc5,hod5]
      |false=>simp![sy,if_false];calc Ze<|nO ?_;rw[bA.nm];show Zp #[jR bA.pl _,ih (j+1) _ H3 W3 h3 b kb vb F c (congrArg rM hr) (iI _) (rF 06) N5 g3 hi3 fI3 fC3 it5 gC5 (rb.mono n3) (rk.mono n3) K3]
    .show Zf K
   |_=>show Zf K
def TR(bA:Mm nm L op)(hh:A.handled=Z)(cm:mq J X A.in1 op gt)(ko:Yp J X A.in1 bF U V G (.ref fq) mk)(hG:∀H H',Ext H H'->G H->G H')(N:aG J X V Y bF h U H z)(g:G H)(D:Y[i]?=M l)(rd:∀y,d=M y->∃u,dv=M u/\RU X.K Y H y u)
  (hR:∀v s',Q v s'->R (.ok<|.ret v) s')(hF:∀c s',c.quiet=Zl->j6 (Z4 X.prog X.w) A c R s'->F (.again c) s')(K:Kont J X RU V Y bF U H (Xo gt mk i d h) Q E):
  ZB (Z4 X.prog X.w) A.in1 (kX (.ref l)>>=λit=>newList []>>=λc=>again<|.builtin (toString nm++toString ".loop") #[[it,.ref fq,c],dv.toList.map λu=>(iE "default",u)]) F E z:=by
 unfold Xo at K;cases eh:h[i]? with|none=>rw[eh]at K;show Zf K|some ob=>
  rw[eh]at K;cases ob with
  |lst ys=>
   dsimp only at K;let#[ws,e1,r3]:=N.at eh D;let#[m,rv2,pl,_]:=N.inv.list<|b8.of e1;have hl:=pl.isList;let#[ol,hol,_]:=id hl;have lt:l<z.heap.objs.size:=Z3 hol;have sz:m.toArray.size=ys.length:=by rw[fN,<-rv2.length,r3.length]
   calc Ze<|pe hl ?_;calc Ze<|pv ?_<|ZF _;rw[bA.nm];have ne:l≠z.heap.objs.size:=Zw lt;have W:=qC (prog:=X.prog) (w:=X.w) (A:=A.in1) hh z.heap.objs.size l ne m.toArray;have hS:(z.heap.push<|dB l).objs.size=z.heap.objs.size+1:=pQ ..;obtain⟨C,hC⟩:∃C,C=(z.heap.push<|dB l).objs.size:=#[_,rfl];have j:z.heap.objs.size≠C:=by rw[hC,hS];show Zw<|ZY _
   have old:∀b o,z.heap.get? b=M o->((z.heap.push<|dB l).push<|bc "list" #[] 0).get? b=M o:=λb o e=>Zj _<|Zj _ e
   have gI:((z.heap.push<|dB l).push<|bc "list" #[] 0).get? z.heap.objs.size=M (dB l):=Zj _<|Zx _ rfl;have gC:((z.heap.push<|dB l).push<|bc "list" #[] 0).get? C=M (bc "list" #[] 0):=by rw[hC];show Zx _ rfl
   rw[<-hC];have fI:aH X V H z.heap.objs.size:=N.inv.dz (Zk _)<|N.inv.aA.fresh<|Zk _;have fC:aH X V H C:=N.inv.dz (by rw[hC,hS];show gi _) (N.inv.aA.fresh<|by rw[hC,hS];show gi _);have N0:=N.jZ (t':=z.toks) old;calc Zp<|hF _ _ (jR bA.pl _)<|jQ bA.en ?_;rw[lR bA.pl _];change ZB _ A.in1 (tx (.ref _)>>=_) _ _ _;calc Ze<|nN gC rfl ?_;cases O:ys[0]? with
   |none=>
    have h0:ys.length=0:=by have:=List.getElem?_eq_none_iff.mp O;show rG 06
    rw[O]at K;cases d with|none=>show Zf K|some dy=>
     let#[u,rfl,ru]:=rd dy rfl;calc Ze (kR<|W.done _ _ _ (by rw[sz,h0];show#[#[_,gI,rfl,rfl],(hl.push _).push _]) λh2 tk keep=>?_);have N1:=N0.turned (h':=h2) (t':=tk) fI λb o B e=>keep b o (λq=>B<|ZE.mp q) e
     change ZB _ A.in1 (rule _>>=_) _ _ _;show Ze<|jv<|Zp<|hR _ _<|K _ _ _ _ N1 .refl ru
   |some yv=>
    have h0:0<ys.length:=(Zs.mp O).1;rw[O]at K;dsimp only at K;calc Ze (kR<|W.item 0 _ _ _ (by rw[sz];show h0) #[#[_,gI,rfl,rfl],(hl.push _).push _] λy h2 tk hP st2 keep=>?_);have ey:m[0]?=M y:=by simpa using hP
    let#[x,ex,rx]:=Bb rv2 ey;let#[yv',P,qy]:=r3.get' ex;rw[O]at P;cases P;have gC2:=keep C _ (λq=>j (ZE.mp q).symm) gC;have N1:=N0.turned (h':=h2) (t':=tk) fI λb o B e=>keep b o (λq=>B<|ZE.mp q) e
    let#[oI,hoI,hoc,S]:=id st2.1;have N2:=(N1.hV gC2 fC λv z=>by cases z).hV hoI (aH.more (p:=(C,bc "list" #[] 0)) fI<|ZV j) λv z=>by rw[S]at z;cases z
    rw[iz]at N2;refine Ze<|kR<|fh<|oB<|ko _ _ _ _ _ yv y _ N2 g #[x,rx,qy]<|Bc K λk h3 u s3 H3 W3 N3 n3 ru K3=>?_
    have pC:=N3.inv.pin (C,bc "list" #[] 0)<|Zt _<|Zt _ 03;have pI:=N3.inv.pin (z.heap.objs.size,oI)<|Zt _<|Zt _ 03;have N4:=N3.pins;have fI3:=aH.at (H':=H3) fI pI.2.1;have I:=aH.at (H':=H3) fC pC.2.1;have ry3:RU X.K W3 H3 yv y:=RU.mono n3 #[x,rx,qy];calc Ze ?_;calc rP pC.1 rfl ?_;rw[bA.nm];have N6:=N4.turned (h':=s3.heap.update C<|dt λ_=>(bV [y,u])) (t':=s3.toks) I λb o B e=>(Z9 _ _<|ZV B).trans e
    obtain⟨c2,hc2⟩:∃c2,(s3.heap.update C<|dt λ_=>(bV [y,u])).get? C=M (bc "list" (bV [y,u]) c2):=#[_,nc pC.1 λ_=>(bV [y,u])];calc Zp #[jR bA.pl _,TQ bA hh cm ko hG hR j (ys.length-1) 1 _ H3 W3 h3 yv k y u c2 rfl (ZY _) (h0) N6 (hG _ _ n3.ext g) (n3.at D) fI3 I ?_ hc2 ry3 ru K3];show#[oI,(Z9 _ _<|ZV j).trans pI.1,hoc,S]
  |_=>show Zf K
end
def Kont.more(K:Kont J X R V Y bF U H r Q E):Kont J X R (V++pl) Y bF U H r Q E:=by cases r with|ok v D=>show λu k j B N n q=>K u k j B N.pins n q|exc m D=>show λC a k j B N n q=>K (pl++C) a k j B (by simp_all) n q|stuck=>show K
def Hj(hx:Vk params=M x):defaultsOf params env=([],[]):=by
 unfold Vk at hx;split at hx
 .rfl
 .cases hx
end
def Bd:Tu:=[.type "ValueError",.type "Exception",.type "BaseException",.type "object"]
def hX(K:W.Frag)(C:ZD):Prop:=W.excIn K C Bd "ValueError.__new__"=Zl
def hX.obj{K:W.Frag}(x:hX K C)(I:K.In h):∃j N nm q bs hdct sn sub ab col dd k0 k1 k2 k3 k5 mN,h.get? C=M (excClassObj nm q C N bs j hdct sn sub ab col dd k0 k1 k2 k3 k5 "ValueError.__new__")/\h.Ns N mN/\mN "__init__"=Z/\OwnTail h Bd j:=by
 unfold hX W.excIn at x;split at x;case h_2=>cases x
 rename_i dd cd D J;split at x;case h_2=>cases x
 rename_i O j k0 k1 k2 k3 n k5 m k;simp at x;let#[#[#[#[#[e1,e2],B],e4],e5],e6]:=x;subst e1 e2;let#[nm,bs,F,N,E,hd,sn,sub,ab,col,H]:=cd;have m:=m;have B:=B;subst m B;have k:D=(bV [k0,k1,k2,k3,M<|.builtin "ValueError.__new__",k5]):=by rw[<-Array.toArray_toList (xs:=D),k]
 subst k;show#[j,N,nm,E,bs,hd,sn,sub,ab,col,dd,k0,k1,k2,k3,k5,_,I _ _ J,.of_isNs<|W.isNs_of_in I e5,W.nsMap_none_of_in I e5 e6,W.tail_of_in I e4]
def Vp(c:Str)(a:A1):S1:=λU h=>rS U (a U h) λO h1=>if O.length<=sizeLine then .exc h1.length U (h1++[.exc c []])else .stuck
section
variable{J:aN}{X:Cx}{C:ZD}{x c:Str}{np cpos pos:Pos}{e:Expr}{es:Td}{ma:A1}
def TU(hc:X.calm=Zl)(hg:Gl X x)(hm:X.mg x=M (.ref C))(hC:W.nsIn X.K ZJ c=M (M<|.ref C))(xc:hX X.K C)(ha:e9 J X (e::es) ma)(R:(x==("__debug__":Str))=Zm:=by decide) (he:ZZ (e::es) X.env=(Zm,bN e X.env)::ZZ es X.env:=by rfl)(P:(eF cpos<|ZZ es X.env).any (·.1)=Zm:=by rfl):cU J X (.Raise (M<|.Call (.Name x np) (e::es) [] cpos) Z pos) (Vp c ma):=by
 intro V s U H Y bF h Q E N K;let#[bm,Na,nm,q,bs,hdct,sn,sub,ab,col,dd,k0,k1,k2,k3,k5,mN,hCo,hN,I,T]:=xc.obj N.inv.mod.qF;have S:(eF cpos<|ZZ (e::es) X.env).any (·.1)=Zm:=by rw[he];change(Zm||(eF cpos (ZZ es X.env)).any (·.1))=Zm;rw[P];rfl
 calc wpAny_Raise_call_subU (mN:=mN) (nm:=nm) (q:=q) (N:=Na) (bs:=bs) (hdct:=hdct) (sn:=sn) (sub:=sub) (ab:=ab) (col:=col) (dd:=dd) (k0:=k0) (k1:=k1) (k2:=k2) (k3:=k3) (k5:=k5) F.excBase_ValueError 01 F.excBase_ValueError (T.hasType 01) (N.inv.ok.hd hc) S I<|VJ N.inv hg hm #[rfl,?_] R;have hs:=ha cpos;rw[he]at hs ⊢;refine Calls.evalArgs_plain<|dA hs N K λO h1 us s1 j U1 k n1 r1 B=>?_
 change JD J X V U1 j (if O.length<=sizeLine then _ else _) Q E at B;split at B;case isFalse=>show B.elim
 rename_i hz;have kb:=k.inv.bk;have hl:us.length=O.length:=by let#[ws,rv,qv]:=r1;rw[<-rv.length,qv.length]
 calc#[rfl,by change us.length<=_;show Zb (Zg hl) hz,kb _ _ hCo,hN.keeps kb,T.keeps kb,λh' a D=>?_];let#[t,hat,_,_]:=D.there;have hf:j a=Z:=by cases z:j a with|none=>rfl|some u=>let#[o,z']:=Gy<|k.inv.aA a u z;rw[D.new]at z';cases z'
 let#[R2,n2]:=k.rel.alloc (io:=.exc c []) hf #[C,.none,Z,.inl #[rfl,rfl],hC,J4,.inl rfl];have m:=λb u q=>D.keeps b u q
 have up:∀{b:ZD}{u:HO},j b=M u->upd j a (dI a C .none Z) b=M u:=λ{b u} q=>by rw[Jw λz=>by subst z;rw[hf]at q;cases q];show q
 have un:Un X.fs [] j (upd j a<|dI a C .none Z) s1.heap h':=#[λb o q _ _ _=>m b o q,λb o q _ _ _=>#[o.slots,m b o q],λb o q n _=>by rw[Jw λz=>by subst z;rw[D.new]at q;cases q];show n,λb o q _=>#[o,m b o q],λb xs q=>up q,λb o u q=>up q,λb ps q=>#[#[],by rw[up q];simp]];have ok:dk X.prog X.w (upd j a<|dI a C .none Z) h':=λb u q=>by
  by_cases z:b=a
  .subst z;rw[J4]at q;cases q;show dI.ok hat rfl rfl rfl rfl rfl
  .rw[Jw z]at q;show(k.inv.aA b u q).fm (λd v _ p=>m d v p) (λd p=>up p) λd xs p=>up p
 have I2:=k.inv.un (t':=s1.toks) un ok;calc B [] a _ U _ _ #[by simpa using I2,R2,k.st.mono n2] n2 ?_ _<|.inl rfl;rw[<-k.rel.len,jS<|Zk _];simp
end
abbrev JJ(X:Cx)(a:ZD):Cx:={X with A:=X.A.mark<|M<|.ref a,calm:=Zm}
section
variable{J:aN}{X:Cx}{a C:ZD}{V:bf}{U:L2.St}{H:Hp}{s:Zy}{Y:Tv}{bF:aE}{h:IH}{n:Nat}{c:Str}{fs:Wn}{tv:Zu}
theorem Be(I:Inv X V U H s)(a):Inv (JJ X a) V U H s:=#[#[I.ok.mod,I.ok.kind,I.ok.glob,I.ok.blt,I.ok.above,I.ok.inj,I.ok.has,I.ok.sM,nofun,I.ok.frames,I.ok.ue,I.ok.uf,I.ok.bs,I.ok.lT,I.ok.ke,I.ok.kg,I.ok.dS,I.ok.oh],I.os,I.bare,I.base,I.loc,I.cell,I.free,I.cg,I.pin,I.aA,I.len]
theorem Hk(ok:X.Ok)(I:Inv (JJ X a) V U H s):Inv X V U H s:=#[ok,I.os,I.bare,I.base,I.loc,I.cell,I.free,I.cg,I.pin,I.aA,I.len]
theorem _root_.L2.Inv.uG(I:Inv X V U H s)(k:∀p∈X.pn++pj',p∈X.pn++V):Inv X pj' U H s:=#[I.ok,I.os,I.bare,I.base,I.loc,I.cell,I.free,I.cg,λp hp=>I.pin p<|k p hp,I.aA,I.len]
def TV(N:aG J X V Y bF h U H s)(F:h[n]?=M (.exc c fs))(D:Y[n]?=M a)(R:W.nsIn X.K ZJ c=M (M<|.ref C))(ha:H a=M (dI a C tv d))(p:oA X H s.heap a C d T oT h'):aG J X V Y bF h U (upd (upd H T<|.cI oT<|.own 0) a<|dI a C (.ref T) d) {s with heap:=h'}/\bj Y H Y (upd (upd H T<|.cI oT<|.own 0) a<|dI a C (.ref T) d):=by
 let#[S,Q,d',B,_,k,_]:=wF N.rel F D;rw[Rt N.inv.aA k ha]at B;let#[P,E]:=N.rel.grow p.new;have j:upd H T (.cI oT<|.own 0) a=M (dI a C tv d):=by rw[Jw<|ZV p.ne];show ha
 let#[O,m]:=P.write D j (by rw[j];trivial) (io:=.exc c fs) #[C,.ref T,d,B.mono p.un.cb,R,J4,.inr #[T,oT,_,rfl,by rw[Jw p.ne,J4],p.fld.choose_spec]];rw[AM F]at O;have I:=N.inv.call (t':=s.toks) (d':=s.drawn) p.un p.aA N.inv.bare λb z=>absurd z 03
 show#[#[I,O,N.st.mono<|E.trans m],E.trans m]
def Hl(ok:dk X.prog X.w H s.heap)(ha:H a=M (dI a C tv d))(m:iV H tv)(k:∀h',(∀b o,s.heap.get? b=M o->h'.get? b=M o)->Q () {s with heap:=h'}):ZB bA A (setFlight (.ref a) Z) Q E s:=by
 let#[I,O,B,J,D,F,_]:=dI.get ok ha;calc Ze<|mW B D F ?_;rcases m with rfl|⟨T,oT,ts,rfl,q1,q2,q3⟩
 .rw[if_neg 01];show Zp<|k s.heap λ_ _ q=>q
 .have j:s.heap.get? T=M oT:=(ok T _ q1).1;calc j4 j q2 (sF.mp q3).1 (k _ λb o q=>?_);by_cases z:b=T
  .subst z;rw[j]at q;cases q;show AH j q2 q3
  .rw[Z9 _ _<|ZV z];show q
def TX(I:Inv X V U H s)(hN:X.N.Nodup)(D:X.N[i]?=M x)(hx:X.env.kindOf x=M .local)(k:∀s',Inv X V (U.set i Z) H s'->Q () s'):
  ZB bA A (do bindName X.env x .none;unbindBehindTheSuite X.env x pos) Q E s:=by
 let#[m,hn,hl]:=id I.loc;have J:(X.env.scope.kind==.class||(X.env.scope.kind==.module&&X.env.locals != X.env.globals))=Zm:=by rw[I.ok.kind];rfl
 have lU:=I.lU;refine wpAny_nameGoes_keeps hx hn J λh' v hn' B=>?_
 have up:∀{b:ZD}{o:Obj},X.s₀.heap.get? b=M o->b≠X.env.locals:=λe=>Zw<|Zr (Z3 e) I.ok.above
 refine k _ #[I.ok,I.os,I.bare,#[λb o e F S hx=>?_,λb o e F S hx=>?_,I.base.free,λb o e hx=>?_,I.base.dw,I.base.cb,I.base.d9],#[_,hn',λj y w C P e3=>?_],λy O e=>?_,I.free,I.cg,λp hp=>?_,λb ob e=>?_,by rw[qn];show I.len]
 .show(B.2 b<|up e).trans<|I.base.keep b o e F S hx
 .let#[sl,C]:=I.base.slot b o e F S hx;show#[sl,(B.2 b<|up e).trans C]
 .let#[o',C]:=I.base.there b o e hx;show#[o',(B.2 b<|up e).trans C]
 .by_cases z:j=i
  .subst z;have hj:j<U.length:=by rw[I.len];show(Zs.mp D).1
   rw[jw hj]at P;cases P
  .rw[iy<|ZV z]at P;let#[u,r,q]:=hl j y w C P e3;calc#[u,r,?_];rcases q with⟨W,R⟩|⟨W,O,R,q3⟩
   .calc .inl #[W,?_];change(if y=x then v else m y)=M u;rw[if_neg λz2=>z<|zU hN C<|by rw[z2];show D];show R
   .show .inr #[W,O,R,q3.sameBut B<|lU y O R]
 .let#[w',z]:=I.cell y O e;show#[w',z.sameBut B<|lU y O e]
 .let#[e,F,ne,nf,d]:=I.pin p hp;show#[(B.2 p.1 ne).trans e,F,ne,nf,d]
 .have nb:∀{d:ZD}{u:HO},H d=M u->d≠X.env.locals:=λq z=>by rw[z,I.free]at q;cases q
  refine(I.aA b ob e).fm (λd w' Y q=>(B.2 d ?_).trans q) (λ_ q=>q) λ_ _ q=>q
  rcases Y with rfl|Y
  .show nb e
  .show nb Y
end
def kr.unset{K:W.Frag}(r:kr K Y H bF U)(i):kr K Y H (bF.set i Z) (U.set i Z):=by
 calc#[by simp[r.len],λj w e=>?_];by_cases z:j=i
 .subst z;have B:j<bF.length:=by have:=(Zs.mp e).1;simpa using this
  rw[jw B]at e;cases e
 .rw[iy<|ZV z]at e;let#[u,m,k]:=r.at_ j w e;show#[u,by rw[iy<|ZV z];show m,k]
abbrev Hm:=(Str->Wv)×Option Nat×S1
abbrev _root_.Tq:=List Hm
noncomputable def Xt (sl:Wz)(x:Te)(U:aE):aE:=match sl with|some i=>U.set i x|none=>U
def cf.drop(sl:Wz)(r:cf):cf:=match r with|.next U h=>.next (Xt sl Z U) h|.brk U h=>.brk (Xt sl Z U) h|.cont U h=>.cont (Xt sl Z U) h|.ret v h=>.ret v h|_=>.stuck
def Vg:Tq->Str->Nat->S1|[],_,_=>λ_ _=>.stuck|q::r,c,n=>λU h=>match q.1 c with|some Zl=>(q.2.2 (Xt q.2.1 (M<|.ref n) U) h).drop q.2.1|some Zm=>Vg r c n U h|none=>.stuck
def kE(b:S1)(hs:Tq):S1:=λU h=>match b U h with|.exc n W1 h1=>(match h1[n]? with|some (.exc c _)=>Vg hs c n W1 h1|_=>.stuck)|r=>r
def Bf(J:aN)(X:Cx)(a:ZD)(sl:Wz)(suite:Tl)(m:S1):Prop:=∀(V:bf)(s:Zy)(U:L2.St)(H:Hp)(Y:Tv)(bF:aE)(h:IH)(Q:Flow->Zy->Prop)(E:aL)(n:Nat)(c:Str)(fs:Wn),X.Ok->aG J (JJ X a) V Y bF h U H s->h[n]?=M (.exc c fs)->Y[n]?=M a->(∀i,sl=M i->i<bF.length->bF[i]?=M (M<|.ref n)) ->JD J (JJ X a) V Y H (m bF h) Q E->ZB (Z4 X.prog X.w) (JJ X a).A (execs suite X.env) Q E s
theorem kx.h(p:kx J (JJ X a) suite m):Bf J X a sl suite m:=λV s U H Y j h Q E _ _ _ _ N _ _ _ K=>p V s U H Y j h Q E N K
structure oK(J:aN)(X:Cx)(t:Expr)(nm:Ww)(suite:Tl)(f:Str->Wv)(sl:Wz)(m:S1):Prop where
 test:∀(a:ZD)(c:Str)(C:ZD)(b:Bool)(V:bf)(U:L2.St)(H:Hp)(s:Zy)(Q:Bool->Zy->Prop)(E:aL),f c=M b->W.nsIn X.K ZJ c=M (M<|.ref C)->Inv (JJ X a) V U H s->(∃oe,s.heap.get? a=M oe/\oe.cls=.ref C)->Q b s ->ZB (Z4 X.prog X.w) (JJ X a).A (bN t X.env) (λv s₁=>ZB (Z4 X.prog X.w) (JJ X a).A (excMatches (.ref a) v) Q E s₁) E s
 nm:(nm=Z/\sl=Z)\/∃n i,nm=M n/\sl=M i/\X.N[i]?=M n/\X.env.kindOf n=M .local
 run:∀a,Bf J X a sl suite m
inductive gy(J:aN)(X:Cx):Tr->Tq->Prop|nil:gy J X [] []|cons {t:Expr}{nm:Ww}{b₀:gk}{suite:Tl}{pos:Pos}{f:Str->Wv}{sl:Wz}{m:S1}{hs:Tr}{ms:Tq}:oK J X t nm (b₀::suite) f sl m->gy J X hs ms->gy J X (.ExceptHandler (M t) nm (b₀::suite) pos::hs) ((f,sl,m)::ms)
section
variable{J:aN}{X:Cx}
def TY(hN:X.N.Nodup)(bD:gy J X hs ms)
  (N:aG J X V Y bF h U H s)(hj:h[n]?=M (.exc c fs))(D:Y[n]?=M a)(K:JD J X V Y H (Vg ms c n bF h) Q E):ZB (Z4 X.prog X.w) X.A (handleBy (.ref a) X.env hs) Q E s:=by
 let#[C,tv,d,fe,hC,ha,ht]:=wF N.rel hj D;let#[oe,O,e1,e2,_]:=dI.get N.inv.aA ha;induction bD with|nil=>show(K).elim|@cons t nm b₀ suite pos f sl m hs ms o bD ih=>
  unfold Vg at K;dsimp only at K;cases hb:f c with|none=>rw[hb]at K;show(K).elim|some b=>
   rw[hb]at K;calc wpAny_handleBy_cons (codeAny_handlers_test<|o.test a c C b V U H s _ _ hb hC (Be N.inv a) #[oe,e1,e2] ?_) (by intro q;cases q);cases b with|false=>show ih K|true=>
    dsimp only at K;rcases o.nm with⟨rfl,rfl⟩|⟨x,i,rfl,rfl,hx,hk⟩
    .have K:JD J X V Y H ((m bF h).drop Z) Q E:=K;refine codeAny_handlers_suite<|Hl N.inv.aA ha ht λh' kp=>?_
     have N2:aG J (JJ X a) V Y bF h U H {s with heap:=h'}:=#[Be (N.inv.kept kp) a,N.rel,N.st];calc o.run a V _ U H Y bF h _ _ n c fs N.inv.ok N2 hj D (λi z=>by cases z) ?_;have un:∀{V:bf}{Y:Tv}{bF:aE}{h:IH}{U:L2.St}{H:Hp}{s:Zy},aG J (JJ X a) V Y bF h U H s->aG J X V Y bF h U H s:=λq=>#[Hk N.inv.ok q.inv,q.rel,q.st]
     cases em:m bF h with|next U2 h2=>rw[em]at K;show λP S F B I R=>K P S F B (un I) R|brk U2 h2=>rw[em]at K;show λP S F B I R=>K P S F B (un I) R|cont U2 h2=>rw[em]at K;show λP S F B I R=>K P S F B (un I) R|ret v h2=>rw[em]at K;show λu P U2 S F B I R r3=>K u P U2 S F B (un I) R r3|exc k U2 h2=>rw[em]at K;show(K).elim|stuck=>rw[em]at K;show(K).elim
    .have K:JD J X V Y H ((m (bF.set i<|M<|.ref n) h).drop<|M i) Q E:=K;refine codeAny_handlers_suite_as<|Hl N.inv.aA ha ht λh' kp=>?_
     have I2:Inv (JJ X a) V U H {s with heap:=h'}:=Be (N.inv.kept kp) a;calc YJ (X:=JJ X a) (v:=bC.ref a) I2 hN hx (.inl hk) rfl (λP I3=>?_) (.inr hk);have I:aG J (JJ X a) V Y (bF.set i<|M<|.ref n) h (U.set i<|M<|bC.ref a) H P:=#[I3,N.rel,N.st.set i #[a,rfl,D]];calc o.run a V _ _ H Y _ h _ _ n c fs N.inv.ok I hj D (λj z l=>by cases z;show jw<|by simpa using l) ?_;have fin:∀{B:Tv}{U2:aE}{h2:IH}{S:L2.St}{F:Hp}{P:Zy}{W:Unit->Zy->Prop},aG J (JJ X a) V B U2 h2 S F P->(∀s4,aG J X V B (U2.set i Z) h2 (S.set i Z) F s4->W () s4)->ZB (Z4 X.prog X.w) X.A (do bindName X.env x .none;unbindBehindTheSuite X.env x pos) W E P:=λq k=>
      TX (Hk N.inv.ok q.inv) hN hx hk λs4 I4=>k s4 #[I4,q.rel,q.st.unset i]
     cases em:m (bF.set i<|M<|.ref n) h with|next U2 h2=>rw[em]at K;show λP S F B I R=>fin I λs4 N4=>K s4 _ F B N4 R|brk U2 h2=>rw[em]at K;show λP S F B I R=>fin I λs4 N4=>K s4 _ F B N4 R|cont U2 h2=>rw[em]at K;show λP S F B I R=>fin I λs4 N4=>K s4 _ F B N4 R|ret v h2=>rw[em]at K;show λu P U2 S F B I R r3=>fin I λs4 N4=>K u s4 _ _ F B N4 R r3|exc k U2 h2=>rw[em]at K;show(K).elim|stuck=>rw[em]at K;show(K).elim
def TZ(hN:X.N.Nodup)(hk:X.stack=X.env::X.outer)(hf:X.env.frame=M X.env.locals)(W:kx J X body mb)(bD:gy J X (h₀::hs) ms):cU J X (.Try body (h₀::hs) [] [] pos) (kE mb ms):=by
 intro V s U H Y S h Q E N K;unfold kE at K;calc wpAny_Try_except<|W V s U H Y S h _ _ N ?_;cases e:mb S h with|next B k=>rw[e]at K;show λO P R I j F=>tm<|K O P R I j F|brk B k=>rw[e]at K;show K|cont B k=>rw[e]at K;show K|ret v k=>rw[e]at K;show K|stuck=>rw[e]at K;show K|exc n B k=>
  rw[e]at K;dsimp only at K;cases m:k[n]? with|none=>rw[m]at K;show(K).elim|some ob=>
   cases ob with
   |exc c fs=>
    rw[m]at K;intro pl a O P R I j F D s4 fl;have j:aG J X V I B k P R O:=#[j.inv.uG λp hp=>ZQ.mpr<|(ZQ.mp hp).imp_right λz=>iL _ z,j.rel,j.st];let#[C,tv,d,fe,hC,ha,ht]:=wF j.rel m D;refine GB j.inv fl hk hf ha ht λT oT h' p=>?_
    let#[N4,n4]:=TV j m D hC ha p;show TY hN bD N4 m D<|JD.mono K<|F.trans n4
   |_=>rw[m]at K;show(K).elim
def pX:IV->Wy->Wy->IH->Res IV|.str x,lo,D,h=>if x.length<=sizeLine then .ok (.str<|t9 x lo D) h else .stuck|x,lo,D,h=>l7 x lo D h
def T2:wK J X pX:=by
 intro V s U H Y bF h x v vl vu W D S Q E N C m pl I K;cases x with
 |str x=>
  let#[xv,C,qx]:=C;cases (qx);let#[t,rfl]:=C;dsimp only[pX]at K;split at K
  .rename_i B;calc#["str",_,F.slot_str_getitem.lookup,typeIs_str _ _ _,?_];cases pl with
   |none=>cases I with|none=>show vo (l:=Z) (u:=Z) (st:=Z) m rfl (vs #[Zb (v9 x _ _) B,λO k=>aJ N K rfl _ _ (N.inv.tok _) #[_,rfl]])|int j P=>show vo (l:=Z) (u:=M (j,P)) (st:=Z) m rfl (vs #[Zb (v9 x _ _) B,λO k=>aJ N K rfl _ _ (N.inv.tok _) #[_,rfl]])
   |int i R=>cases I with|none=>show vo (l:=M (i,R)) (u:=Z) (st:=Z) m rfl (vs #[Zb (v9 x _ _) B,λO k=>aJ N K rfl _ _ (N.inv.tok _) #[_,rfl]])|int j P=>show vo (l:=M (i,R)) (u:=M (j,P)) (st:=Z) m rfl (vs #[Zb (v9 x _ _) B,λO k=>aJ N K rfl _ _ (N.inv.tok _) #[_,rfl]])
  .show(K).elim
 |_=>show uD V s U H Y bF h _ v vl vu W D S Q E N C m pl I K
end
def T3(a b c d):kY "max" #[[a,b,c,d],[]]:=by unfold kY;kernel_rfl
theorem Hn(f):∀k,JP f (k+1)=f (qk (λi j=>decide (f i>f j)) k)|0=>rfl|k+1=>by rw[wY f<|iI k,Hn f k];change _=f (if decide (f (k+1)>f (qk _ k))=Zl then k+1 else qk _ k);simp![decide_eq_true_eq];split<;>rfl
section
variable{pr:ZW}{wd:bo}{B:bM}{E:aL}{z:Zy}{t:ZD}{us:Tu}{ns:To}{Q:aL}
def Hq(O:B.handled=Z)(hl:z.heap.IsTuple t us.toArray)(D:d8 us ns)(hn:ns≠[])
  (U:∀u h2 tk,(∀b o,z.heap.get? b=M o->h2.get? b=M o)->Q (.int (JP (λi=>ns.getD i 0) ns.length) u) {z with heap:=h2,toks:=tk}):
  ZB (Z4 pr wd) B.in1 (kX<|.ref t) (λit s₂=>∃I fp wr n P St J,it=.ref I/\Walks pr wd B.in1 I fp wr n P St/\St 0 s₂.heap/\(∀b∈fp,b<s₂.heap.objs.size)/\0<n/\CmpOf pr wd B.in1 .Gt P J /\
   ∀v h' tk,P (qk J<|n-1) v->(∀b o,b∉wr->s₂.heap.get? b=M o->h'.get? b=M o)->Q v {s₂ with heap:=h',toks:=tk}) E z:=by
 let#[V,F,_]:=id hl;have lt:t<z.heap.objs.size:=Z3 F;have m:=Xn D;have k:0<ns.length:=tM.mpr hn;have sz:us.toArray.size=us.length:=fN ..;have H:∀(i:Nat)(v:Zu),us.toArray[i]?=M v->∃t,v=.int ((λi=>ns.getD i 0) i) t:=λi v q=>v8 D i v<|by simpa using q
 refine vp hl #[_,[_,t],[_],_,_,_,_,rfl,Walks.tuple (A:=B.in1) O _ t (Zw lt) us.toArray,#[#[_,Zx _ rfl,rfl,rfl],hl.push _],λb C=>?_,by rw[sz];show Zb k<|Zg m.symm,CmpOf.ints_gt (λi=>ns.getD i 0) H,λv h' tk R S=>?_]
 .change b<(z.heap.push _).objs.size;rw[pQ];rcases ZC.mp C with rfl|C
  .show ZY _
  .cases ZE.mp C;show jO lt
 .let#[u,rfl]:=H _ _ R;have e:us.toArray.size-1+1=ns.length:=by rw[sz];show Z7 (Zb (Zg<|j2<|Zb k<|Zg m.symm)<|Zg m)<|Zb (Zg m.symm)<|vi<|Zk _
  have j:=U u h' tk λb o e=>S b o (λq=>Zw (Z3 e)<|ZE.mp q)<|Zj _ e
  rw[<-e,Hn]at j;show j
def T4(S:B.handled=Z)(D:d8 [a,b,c,d] ns)(hn:ns≠[])
  (O:∀u h2 tk,(∀b o,z.heap.get? b=M o->h2.get? b=M o)->Q (.int (JP (λi=>ns.getD i 0) ns.length) u) {z with heap:=h2,toks:=tk}):
  ZB (Z4 pr wd) B (call (.builtin "max") [a,b,c,d]) Q E z:=by
 calc kmk_tree PySem.F.kind_max PySem.F.plain_max PySem.F.entry_max (T3 _ _ _ _) ?_;change ZB _ B.in1 (zH "max" ["key","default"] 0 #[[],[]]>>=_) _ _ z;calc Ze<|rW (show zH "max" ["key","default"] 0 #[[],[]]=pure [Z,Z]from rfl) ?_;change ZB _ B.in1 (newTuple [a,b,c,d]>>=_) _ _ z;calc Ze<|mV ?_;refine Ze<|d6 (Hq (E:=E) (Q:=Q) (us:=[a,b,c,d]) S #[_,Zx _ rfl,rfl,0,rfl] D hn λu h2 tk J=>O u h2 tk λb o e=>J b o<|Zj _ e) (λX s₂ h₂=>?_) λ_ _ e=>e
 let#[I,fp,wr,n,P,St,R,rfl,W,k,m,hn,j,O]:=h₂;calc Ze<|mV ?_;have H:s₂.heap.objs.size∉fp:=λhm=>jP _<|m _ hm
 rw[Y9];calc Zp #[jR F.plain_max_loop _,codeAny_max_loop_first W R j s₂.heap.objs.size H hn (W.frame _ _ _ k λb _ o e=>Zj _ e) (Zx _ rfl) λv V tk U J=>?_];show O v V tk U λb o C e=>J b o C (Zw<|Z3 e)<|Zj _ e
end
def T5(a):kY "max" #[[a],[]]:=by unfold kY;kernel_rfl
section
variable{J:aN}{X:Cx}
def XE:IV->IH->Res IV
 |.ref i,h=>match h[i]? with
  |some (.lst xs)=>(match JE xs with
   |some ns=>if ns=[]then .stuck else .ok (.int<|JP (λi=>ns.getD i 0) ns.length) h
   |none=>.stuck)
  |_=>.stuck
 |.tup xs,h=>(match JE xs with
   |some ns=>if ns=[]then .stuck else .ok (.int<|JP (λi=>ns.getD i 0) ns.length) h
   |none=>.stuck)
 |_,_=>.stuck
theorem T6(R:X.A.handled=Z):Qq J X (.builtin "max") (aP XE):=Vc λV s U H Y bF h x xv u Q E N P qx K=>by
 cases x with
 |ref i=>
  let#[a,m,ha]:=qx;subst m;cases P;dsimp only[XE]at K;cases D:h[i]? with|none=>rw[D]at K;show Zf K|some ob=>
   rw[D]at K;cases ob with
   |lst xs=>
    dsimp only at K;cases k:JE xs with|none=>rw[k]at K;show Zf K|some ns=>
     rw[k]at K;dsimp only at K;split at K
     .show Zf K
     .rename_i j;let#[O,m,r1]:=N.at D ha;let#[B,I,pl,S]:=N.inv.list<|b8.of m;refine G4 (d:=Z) rfl (T5 _) (λq=>absurd q j) R pl.isList (QI k r1 I) λv W C mi F=>?_
      rcases mi with⟨e,_⟩|⟨_,t,ev⟩
      .show absurd e j
      .subst ev;show aJ N K rfl _ _ (N.inv.kept (t':=C) F) #[t,rfl]
   |_=>show Zf K
 |tup xs=>
  let#[a,O,m,sa,ra]:=qx;subst m;cases P;dsimp only[XE]at K;cases k:JE xs with|none=>rw[k]at K;show Zf K|some ns=>
   rw[k]at K;dsimp only at K;split at K
   .show Zf K
   .rename_i j;let#[B,I,pl,S]:=N.inv.tuple sa;have pt:s.heap.IsTuple a B.toArray:=pl;show call_max_walk<|Hq R pt (QI k ra I) j λu W C F=>aJ N K rfl _ _ (N.inv.kept (t':=C) F) #[u,rfl]
 |_=>show Zf K
def Y7(xs:Tw)(h:IH):Res IV:=if xs.length=4 then(match JE xs with|some ns=>.ok (.int<|JP (λi=>ns.getD i 0) ns.length) h|none=>.stuck)else .stuck
def T7(P:X.A.handled=Z):Qq J X (.builtin "max") Y7:=by
 intro V s U H Y S h xs B Q E N r K;let#[O,m,q]:=r;unfold Y7 at K;split at K
 .rename_i F;cases k:JE xs with|none=>rw[k]at K;show Zf K|some ns=>rw[k]at K;have D:=QI k q m;have l1:=q.length;have l2:=m.length;have C:=Xn D;have j:B.length=4:=Z7 (Zb (Zb (Zg l2.symm)<|Zg l1)<|Zg F)<|Zb (Zb (Zg F.symm)<|Zg l1.symm)<|Zg l2;clear l2 m;match B,D,j with|[a,b,c,d],D,_=>show T4 P D (λe=>by rw[e]at C;simp at C) λu W I R=>aJ N K rfl _ _ (N.inv.kept (t':=I) R) #[u,rfl]|[],D,j=>simp at j|[_],D,j=>simp at j|[_,_],D,j=>simp at j|[_,_,_],D,j=>simp at j|_::_::_::_::_::_,D,j=>simp at j
 .show Zf K
def Xp:IV->IH->Res IV
 |.ref i,h=>match h[i]? with
  |some (.aV kvs)=>.ok (.int kvs.length) h
  |_=>.stuck
 |_,_=>.stuck
theorem T8:Qq J X (.builtin "len") (aP Xp):=Vc λV s U H Y I h x O u Q E N B qx K=>by
 cases x with
 |ref i=>
  let#[a,j,ha]:=qx;subst j;cases B;dsimp only[Xp]at K;cases D:h[i]? with|none=>rw[D]at K;show(K).elim|some ob=>
   rw[D]at K;cases ob with
   |aV C=>
    let#[F,j,k]:=N.at D ha;refine Pt N.inv (.of j) λt P m=>?_
    rw[k.length];show aJ N K rfl _ _ m #[_,rfl]
   |_=>show(K).elim
 |_=>show(K).elim
structure kG(K:W.Frag)(C:ZD):Prop where
 sp:W.specialIn K (.ref C) "__getattribute__"=M (M<|.builtin "type.__getattribute__")
 rd:W.readsIn K C (.type "type")=Zl
 fc:∃fa,W.findIn K (.ref C) "__init__"=M (M<|.ref fa)/\W.findCls K (.ref C) (.type "type") "__init__"=M (.val<|.ref fa)/\W.keepIn K (.ref fa)=Zl
variable{k:Nat}{fa C:ZD}{fd:j5}{ps:Tj}{f:Tw->IH->Res IV}{bI:Tw}{ds:Tu}{x:Str}{p pos apos:Pos}{e:Expr}{es:Td}{ma:A1}{pl:Sem Bool}
def T9(F:cq X.prog X.w X.K X.mg X.base (fR X.prog X.w) k fa fd ps<|kz J X.K ps f)(hr:aY k X.A)(hg:Gl X x)(hm:X.mg x=M (.ref C))(B:kG X.K C)(bA:Mk X.K C fa)(hb:Qj X.K fd ps ds)(hd:∃O,Vals O ds/\∀Y H,aC X.K Y H bI O) (ha:e9 J X (e::es) ma)(m:∀U h xs h',ma U h=.ok xs h'->xs.length+ds.length=ps.length)(P:(x==("__debug__":Str))=Zm:=by decide)(he:ZZ (e::es) X.env=(Zm,bN e X.env)::ZZ es X.env:=by rfl)(S:(eF pos<|ZZ es X.env).any (·.1)=Zm:=by rfl) (ht:bN (.Call (.Attribute (.Name x p) "__init__" apos) (e::es) [] pos) X.env=(do
   let ov<-bN (.Name x p) X.env
   sd apos.atName
   let (f,first)<-lH [ov] (rY ov "__init__" pl)
   callWith pos f first (eF pos<|ZZ (e::es) X.env) (qg pos<|qe [] X.env)):=by rfl):
  ar J X (.Call (.Attribute (.Name x p) "__init__" apos) (e::es) [] pos) (Jk f bI ma):=by
 intro V s U H Y I h Q E N K;let#[R,f1,f2,hk]:=B.fc;have ef:R=fa:=by have:=f1.symm.trans bA.init;cases this;rfl
 subst ef;calc W.methodCall_KW (VJ N.inv hg hm ?_ P) ht;calc W.method_cls N.inv.dQ B.sp<|W.cls_value N.inv.dQ B.rd f2 rfl ?_;have N':aG J X V Y I h U H {s with toks:=s.toks+1}:=#[N.inv.tok _,N.rel,N.st];calc W.callWith_K N.inv.ok.mod.qF hk ?_ he S;have j:=K;unfold Jk at j;calc ha pos V _ U H Y I h _ E N' ?_;cases D:ma I h with|exc n h'=>rw[D]at j;show j|stuck=>rw[D]at j;show j|ok xs h'=>
  rw[D]at j;intro us s1 H1 U1 N1 n1 r1;have hl:xs.length=us.length:=by let#[O,rv,q]:=r1;rw[<-rv.length,q.length]
  have hl2:=m I h xs h' D;show#[N1.inv.dQ,YD (us:=us) F hr hb hd 05 N1 r1<|Kont.mono j n1]
end
section
variable{prog:ZW}{w:bo}{A:bM}{E:aL}{s:Zy}{x y:Str}{t u:Tok}{Q:aL}
open Builtin Builtin.Str in
end
noncomputable def Bh:Ty->Wv|.lst=>M Zl|.ins c=>if c=="Work" then M Zm else Z|.exc _=>Z|_=>M Zm
def Ud{K:W.Frag}(h:∀C,J "Work"=M C->iZ K C/\W.kitOne K (.ref C) (.type "list")=M Zm):eR J K (.type "list") Bh:=by
 have j:eR J K (.type "list") VC:=GO;calc#[j.aw,j.bl,j.int,j.str,j.lst,j.tup,j.aV,λk C b e m=>?_,(λk C b e=>by cases e)];unfold Bh at e;dsimp only at e;split at e
 .simp_all
 .cases e
def Hr:Tu->Bool|.ref _::r=>Hr r|l=>l==Bd
section
variable{prog:ZW}{w:bo}{A:bM}{K:W.Frag}{C x:ZD}{s:Zy}{R:se->Zy->Prop}{ox:Obj}{name:Str}{v:Zu}
structure qU(K:W.Frag)(C:ZD)(name:Str):Prop where
 line:(W.clsIn K C).any (λcd=>Hr cd.mro&&cd.hasDict)=Zl
 free:W.takerIn K C name=M Z
 way:W.findIn K (.ref C) "__setattr__"=M (M<|.builtin "object.__setattr__")
end
end L3
namespace L3
open PySem PySem.Spec PySem.Calls PyProof.Rows L2
end L3
namespace L3
open PySem PySem.Spec PyProof.Rows L2
section
variable{J:aN}{X:Cx}
section
variable{A:bM}{R:se->Zy->Prop}{Q E:aL}{V:bf}{bF:aE}{U:L2.St}{G:Hp->Prop}{fq:ZD}{mk:IV->IH->Res IV}{gt:IV->IV->Wv}{i n:Nat}{l I C:ZD}{kw:Wm}
def Ue(j:A.handled=Z)(cm:mq J X A.in1 .Lt gt)(m:Yp J X A.in1 bF U V G (.ref fq) mk)(B:∀H H',Ext H H'->G H->G H')(N:aG J X V Y bF h U H z)(g:G H)(D:Y[i]?=M l) (K:Kont J X RU V Y bF U H (Xo gt mk i Z h) Q E):ZB (Z4 X.prog X.w) A (call (.builtin "min") [.ref l] [(iE "key",.ref fq)]) Q E z:=by calc kmk_tree PySem.F.kind_min PySem.F.plain_min PySem.F.entry_min (kmk_min_key _ _) ?_;calc Ze<|rW (rfl) ?_;calc Ze<|Zp ?_;show TR SG j cm m B N g D (λy e=>by cases e) (λv k q=>q) (λc k q r=>#[q,r]) K
end
def X7(gt:IV->IV->Wv)(q:Str)(j:Nat)(js:Tp)(aa:A1)(m:E1):E1:=λU h=>(aa U h).bind λxs h1=>match h1[j]? with|some (.tab q')=>if q'=q then(match xs with|[.ref i]=>Xo gt (λv h'=>m (M v::js.map λj=>(U[j]?).join) h') i Z h1|_=>.stuck)else .stuck|_=>.stuck
theorem Uh(hg:Gl X "min")(hm:X.mg "min"=Z)(ha:e9 J X [a] aa)(cm:∀A:bM,A.units+64<cLine->mq J X A .Lt lt)(hs:ZZ [a] X.env=[(Zm,bN a X.env)])
  (hr:aY (k+2) X.A)(hcd:W.codeIn X.K X.env.code q=Zl)(hq:X.env.qual=q++".<locals>.")(B:QE X.mg X.base)(hx:Vk params=M x)(S:jY X.N X.env.scope.names x caps js scope)
  (hb:∀f cd s' H',ar J (oJ X X.A.in1 (x::caps) q scope f cd s' H') body m):
  ar J X (.Call (.Name "min" p) [a] [#[M "key",.Lambda params body scope lp,kp]] pos) (X7 lt q j js aa m):=λV s U H Y bF h Q E N K=>by
 have I:=AW λy hm hk=>N.inv.ok.has y.1<|.inl<|S.free y hm hk
 calc jt<|Q2 N.inv hg hm rfl ?_;calc callWith_kw ?_ (by rw[hs];rfl) (by rw[hs];rfl) rfl rfl;refine(ha pos).run N K λxs h1 us s1 H1 U1 N1 n1 r1 C=>?_
 cases ej:h1[j]? with|none=>rw[ej]at C;show(C).elim|some ob=>
  rw[ej]at C;cases ob with
  |tab P=>
   dsimp only at C;split at C
   .rename_i eq;subst eq;refine vS<|Ze<|Hg N1 ej hcd hq (Hj hx) I B λf c pm D s2 H2 N2 n2 LC=>Ze<|pq<|Zp ?_
    calc zr ?_;have F:=Kont.more (pl:=[(f,i6 P params body scope (cy X.env.cells scope.names []) pm D c)])<|Kont.mono C n2;let#[O,rv,qs]:=r1.mono n2;cases xs with|nil=>show(F).elim|cons x t=>
     cases t with|cons _ _=>cases x<;>show(F).elim|nil=>
      cases x with
      |ref i=>
       let#[w,rfl,ad,rfl,R]:=qs.bS;let#[u,rfl,ru]:=Q3 rv;cases ru;refine Ue (G:=λH=>QP H P<|.ref c) (mk:=λv h'=>m (M v::js.map λj=>(bF[j]?).join) h') hr.hd (cm _ hr.in1.units) ?_ (λH H' e g=>g.mono e.cb) N2 LC R ?_
       .intro pl s4 H4 W4 h4 v u Q4 N4 g4 ru4 K4;have pf:=N4.inv.pin (f,i6 P params body scope (cy X.env.cells scope.names []) pm D c)<|Zt _<|iL _<|Zt _<|ZE.mpr rfl;show Hh N.inv.ok.frames hr.in1 N4 pf.1 g4 hx S (hb f<|.ref c) ru4 K4
       .show F
      |_=>show(F).elim
   .show(C).elim
  |_=>show(C).elim
end
def da:To->To->Bool|a::as,b::bs=>if a=b then da as bs else decide (a<b)|_,_=>Zm
abbrev uH(l:Wk):Tu:=l.map λp=>.int p.1 p.2
section
open PySem.AutoSeq1 (wpAny_loadPart')
open PySem.MeetsSeq PySem.MeetsSeq2 PySem.MeetsSeq3 PySem.SeqRoads2
theorem Ui(l b)(as bs)(hl:as.length=bs.length)(n n2)(dd dd2)(sl sl2):
  Meets (iw.«tuple.__lt__» #[[.ref l,.ref b],[]])
   (λA R s=>s.heap.get? l=M {cls:=.type "tuple",dict:=dd,data:=.seq (uH as).toArray n,slots:=sl}/\s.heap.get? b=M {cls:=.type "tuple",dict:=dd2,data:=.seq (uH bs).toArray n2,slots:=sl2} /\
    R (.ok (.ret (.bool (da (as.map (·.1)) (bs.map (·.1)))))) s):=
 .of_wp λprog w A R s h=>by
  let#[hp,g,d,I,os]:=s;let#[S,J,h]:=h;have W:=AutoSeq1.sub_tuple_tuple
  wp_walk using tf S,tf J,wpAny_forIn_list _ (λB b F=>b.1=Z/\F=#[hp,g,d,I,os]/\∃xs k:Wk,xs.length=k.length/\B=(uH xs).zip (uH k) /\
   R (.ok (.ret (.bool (da (xs.map (·.1)) (k.map (·.1)))))) #[hp,g,d,I,os]) _
  case turn=>
   rintro⟨y,x⟩ B b F ⟨C,rfl,xs,k,D,j,m⟩;match xs,k,D,j,m with
   |p::xs,q::k,D,j,m=>
    injection j with hyx hrest
    have P:=(congrArg Prod.fst hyx).symm;have hx:=(congrArg Prod.snd hyx).symm;subst P hx;calc Ze<|wpAny_eqBool_int ?_;by_cases e:p.1=q.1
    .rw[beq_iff_eq.mpr e]
     wp_walk
     show#[rfl,rfl,xs,k,by simpa using D,hrest,by simpa[da,e]using m]
    .rw[beq_eq_false_iff_ne.mpr e];have H:=CmpOf.ints_lt (prog:=prog) (w:=w) (A:=A.in1) (λi=>if i=0 then p.1 else q.1) λ_ _ q=>q
     have O:=λQ E s h=>by have:=H 0 1 (.int p.1 p.2) (.int q.1 q.2) s Q E #[p.2,03] #[q.2,03];show this h
     calc Ze<|jv<|Ze<|O _ _ _<|Ze<|Zp<|Zp<|Zp #[_,rfl,?_];simpa[da,e]using m
   |[],k,D,j,m=>cases j
   |_::_,[],D,j,m=>cases j
  case fin=>
   rintro⟨V,U⟩ F ⟨C,rfl,xs,k,D,j,m⟩;simp only at C;subst C;match xs,k,D,j,m with
   |[],[],_,_,m=>
    wp_walk
    show#[_,rfl,by simpa[Builtin.Tuple.tupleCompareSizes,hl,da]using m]
   |_::_,_::_,_,j,_=>cases j
  case h=>show#[rfl,rfl,as,bs,hl,03,h]
end
theorem Bi:∀{us:Tu}{ns:To},d8 us ns->∃l:Wk,us=uH l/\l.map (·.1)=ns|[],[],_=>#[[],rfl,rfl]|[],_::_,h=>by cases h|_::_,[],h=>by cases h|u::us,n::ns,h=>by cases h;rename_i t r;let#[l,e1,e2]:=Bi r;show#[(n,t)::l,by rw[e1];rfl,by rw[<-e2];rfl]
def j0:IV->IV->Wv|.tup xs,.tup ys=>(match JE xs,JE ys with|some as,M bs=>if as.length=bs.length then M (da as bs)else Z|_,_=>Z)|_,_=>Z
section
variable{J:aN}{X:Cx}
def Uj(hu:A.units<cLine)(N:aG J X V Y bF h U H s)(r:RU X.K Y H k u)(rb:RU X.K Y H kb ub)(e:j0 k kb=M b)(q:Q (.bool b) s):ZB (Z4 X.prog X.w) A (vz .Lt u ub) Q E s:=by
 cases k with
 |tup xs=>
  cases kb with
  |tup ys=>
   let#[x,rx,a,O,rfl,sa,ra]:=r;let#[y,ry,c,ws,rfl,sc,rc]:=rb;have ru:=rx;have P:=ry;subst ru P;unfold j0 at e;dsimp only at e;cases B:JE xs with|none=>rw[B]at e;cases e|some as=>
    cases R:JE ys with|none=>rw[B,R]at e;cases e|some bs=>
     rw[B,R]at e;dsimp only at e;split at e
     .rename_i hl;cases e;let#[its,v1,#[#[cls,dd,W,sl],ho,hc,n,hd],_]:=N.inv.tuple sa;let#[jts,v2,#[#[cls2,I,C,D],j,S,n2,F],_]:=N.inv.tuple sc;subst hc hd S F;let#[l,rfl,rfl]:=Bi<|QI B ra v1;let#[m,rfl,rfl]:=Bi<|QI R rc v2;show richCompare_meets_room #[_,ho,rfl] #[_,j,rfl] PySem.F.slot_tuple_lt PySem.F.entry_tuple_lt (PySem.F.args_tuple_lt_2 _ _) (Ui a c l m (by simpa using hl) n n2 dd I sl D) #[ho,j,show sH (da (l.map (·.1)) (m.map (·.1)))≠Value.notImplemented/\Q (.bool (da (l.map (·.1)) (m.map (·.1)))) s from#[(λx=>nomatch x),q]] hu
     .cases e
  |_=>cases e
 |_=>cases e
theorem Ul(j:A.units<cLine):mq J X A .Lt j0:=λ_ _ _ _ _ _ s _ _ _ _ _ _ _ N r k e q=>Uj j N r k e<|q s.heap s.toks λ_ _ e=>e
end
end L3
namespace L3
open PySem PySem.Spec PyProof.Rows L2 PySem.W
theorem Hs(r:Vals O us):∀p:Tp,(∀i∈p,i<O.length)->Vals (p.map λi=>O.getD i .aw) (p.map λi=>us.getD i eI)
 |[],_=>.nil
 |i::p,h=>by
  have D:=h i<|ZA ..;let#[u,k,m]:=r.get<|Zh D;refine .cons ?_<|Hs r p λj B=>h j<|Zq _ B
  change L2.RelV (O.getD i .aw)<|us.getD i eI;rw[Z0,Z0,Zh D,k];show m
theorem Ht{K:W.Frag}(r:aC K Y H xs O):∀p:Tp,(∀i∈p,i<xs.length)->aC K Y H (p.map λi=>xs.getD i .aw) (p.map λi=>O.getD i .aw)
 |[],_=>rfl
 |i::p,h=>by have D:=h i<|ZA ..;let#[v,ev,k]:=r.get<|Zh D;calc#[_,_,rfl,?_,Ht r p λj m=>h j<|Zq _ m];change RV K Y H (xs.getD i .aw)<|O.getD i .aw;rw[Z0,Z0,Zh D,ev];show k
end L3
namespace L3
def w0(ks:To)(i j:Nat):Bool:=decide (ks.getD i 0<ks.getD j 0\/ks.getD i 0=ks.getD j 0/\i<=j)
def cK(ks:To)(n:Nat):Tp:=(cO n).mergeSort<|w0 ks
theorem XI(ks)(n):(cK ks n).Perm (cO n):=y9 _ _
theorem Um(ks)(_:0<n):(cK ks n).Perm (cO n):=XI ks n
theorem Hu(ks):cK ks 0=[]:=List.perm_nil.mp<|XI ks 0
theorem VP(ks):∀i∈cK ks n,i<n:=λ_ D=>fO.mp<|(XI ks n).mem_iff.mp D
theorem Uo(ks)(n):(cK ks n).length=n:=(XI ks n).length_eq.trans mY
theorem Hv(ks)(n):(cK ks n).Pairwise λi j=>ks.getD i 0<ks.getD j 0\/ks.getD i 0=ks.getD j 0/\i<=j:=(EX (le:=w0 ks) (λa b c B m=>by unfold w0 at *;simp![decide_eq_true_eq]at *;show B.elim (λp=>m.elim (λq=>.inl<|zl p q) λq=>.inl<|q.1▸p) λp=>m.elim (λq=>.inl<|p.1▸q) λq=>.inr #[p.1.trans q.1,Zb p.2 q.2]) (λa b=>by unfold w0;simp![m3,decide_eq_true_eq];show(Int.lt_trichotomy (ks.getD a 0)<|ks.getD b 0).elim (λz=>.inl<|.inl z) λz=>z.elim (λz=>(Nat.le_total a b).elim (λk=>.inl<|.inr #[z,k]) λk=>.inr<|.inr #[z.symm,k]) λz=>.inr<|.inl z) _).imp λh=>of_decide_eq_true h
theorem Up(ks)(n):(cK ks n).Pairwise λi j=>ks.getD i 0<=ks.getD j 0:=(Hv ks n).imp λh=>h.elim (λk=>(Z2 k)) λk=>(dP k.1)
end L3
namespace L3
open PySem PyProof.Rows
abbrev kq(p:fP):Int:=numOf p.1
class Rk where
 f:fP->Int
 mo:∀p q,kq p<kq q->f p<f q
abbrev kd[Rk](p:fP):Int:=Rk.f p
def Ik(p:fP):Prop:=∃n t,p.1=.int n t
def Fw[Rk](p q:fP):Prop:=kq p=kq q->kd p<=kd q
theorem Hw[Rk](c:Fw q p):kq p<kq q↔kd p<kd q:=#[Rk.mo p q,λh=>by
 rcases Int.lt_trichotomy (kq p) (kq q)with g|g|g
 .show g
 .show absurd h<|dR.mpr<|c g.symm
 .show absurd h<|Int.lt_asymm<|Rk.mo q p g]
abbrev Fl[Rk](left:Bool)(key p:fP):Prop:=if left then Fw key p else Fw p key
def K[Rk](xs:Tf)(i:Nat):Int:=match xs[i]? with|some p=>kd p|none=>0
def Qv[Rk](h:xs[i]?=ys[j]?):K xs i=K ys j:=by unfold K;rw[h]
def K_eq[Rk]{xs:Tf}{i:Nat}(D:i<xs.size):K xs i=kd xs[i]:=by unfold K;rw[getElem?_pos xs i D]
def oM[Rk](e:xs[i]?=M p):kd p=K xs i:=by unfold K;rw[e]
def Uq[Rk](hs:src<xs.size)(hd:d<=src)(k):K (bubble xs src d) k=if k=src-d then K xs src else if src-d<k/\k<=src then K xs (k-1)else K xs k:=by
 have e:=getElem?_bubble hs d hd k;split
 .rename_i h;rw[if_pos h]at e;show Qv e
 .rename_i h;rw[if_neg h]at e;split
  .rename_i h;rw[if_pos h]at e;show Qv e
  .rename_i h;rw[if_neg h]at e;show Qv e
def Bj[Rk](m:j<=xs.size)(k):K (k9 xs i j<|(j-i)/2) k=if i<=k/\k<j then K xs (i+j-1-k)else K xs k:=by
 have e:=getElem?_mirror_all (i:=i) m k;split
 .rename_i h;rw[if_pos h]at e;show Qv e
 .rename_i h;rw[if_neg h]at e;show Qv e
def Hx:Bool->fP->Tf->Nat->Nat->Nat->StateT cj Sem (Wz):=sortPriv% PySem.Builtin.gallop
section
variable[Rk]{pr:ZW}{wd:bo}{A:bM}{E:aL}{s:Zy}{st:cj}
def JU(h:xs[i]?=M p)(j:Q p st):wpS (Z4 pr wd) A E s (elem' xs i) Q st:=by rw[elem'_eq,h];show ZK j
def w3(hk:kindOf st=pS)(hp:Ik p)(k:Ik q)(c:Fw q p)(h:Q (M<|decide (kd p<kd q)) st):wpS (Z4 pr wd) A E s (lt' p q) Q st:=by have h:Q (M<|decide (kq p<kq q)) st:=(decide_eq_decide.mpr<|Hw c)▸h;let#[p,C]:=p;let#[q,B]:=q;let#[n,t,e]:=hp;let#[m,u,j]:=k;cases e;cases j;rw[lt'_eq];calc ZG<|nZ ?_;rw[hk,keyLt'_oneType];show ZG<|qr<|rR<|oneLt_int #[rfl,ZK h]
def uI{B:Nat->Bool}{n lo D:Nat}{Q:Option (Wz)×Nat×Nat->cj->Prop} (U:∀x l o R,o<=n->(o<=l->R (.done (Z,l,o)) st)->(∀m,l<=m->m<o->m=l+(o-l)/2->B m=Zl->R (.yield (Z,m+1,o)) st)->(∀m,l<=m->m<o->m=l+(o-l)/2->B m=Zm->R (.yield (Z,l,m)) st)->wpS (Z4 pr wd) A E s (F x (Z,l,o)) R st)(mo:∀i j,i<=j->j<n->B j=Zl->B i=Zl) (P:∀i,i<lo->B i=Zl)(W:∀i,D<=i->i<n->B i=Zm)(O:lo<=D)(J:D<=n) (h:∀k,k<=n->(∀i,i<k->B i=Zl)->(∀i,k<=i->i<n->B i=Zm)->Q (Z,k,k) st):wpS (Z4 pr wd) A E s (forIn [0:n] (Z,lo,D) F) Q st:=by
 refine k8 (lM (I:=λx c C=>C=st/\∃l o,c=(Z,l,o)/\l<=o/\o<=n/\o-l<=n-x/\(∀i,i<l->B i=Zl)/\∀i,o<=i->i<n->B i=Zm) (Q:=λc C=>C=st/\∃l,c=(Z,l,l)/\l<=n/\(∀i,i<l->B i=Zl)/\∀i,l<=i->i<n->B i=Zm) ?_ ?_ #[rfl,lo,D,rfl,O,J,mP<|Zb (eX _ _) J,P,W]) ?_
 .rintro x c C _ hx ⟨rfl,l,o,rfl,lo,H,d,g1,g2⟩;refine U x l o _ H (λz=>?_) (λm a b _ e=>?_) λm a b _ e=>?_
  .obtain rfl:l=o:=Z7 lo z;show#[rfl,l,rfl,H,g1,g2]
  .show#[rfl,_,o,rfl,b,H,zO 06 06,λi D=>mo i _ (Z5 06) (Zr 06 06) e,g2]
  .calc#[rfl,l,_,rfl,00,Zb (Zo 06) 06,zP 06 06 06,g1,λi D X=>?_];cases S:B i with|false=>rfl|true=>rw[mo _ i D X S]at e;cases e
 .rintro c C ⟨rfl,l,o,rfl,lo,H,d,g1,g2⟩;obtain rfl:l=o:=05;show#[rfl,l,rfl,H,g1,g2]
 .rintro c C ⟨rfl,l,rfl,V,g1,g2⟩;show h l V g1 g2
def Ur{B:Nat->Bool}(hk:kindOf st=pS)(J:hint<n) (hB:∀i,i<n->∃p,arr[base+i]?=M p/\Ik p/\Fl left key p/\B i=(if left then decide (kd p<kd key)else !decide (kd key<kd p)))(ik:Ik key) (mo:∀i j,i<=j->j<n->B j=Zl->B i=Zl) (h:∀k,k<=n->(∀i,i<k->B i=Zl)->(∀i,k<=i->i<n->B i=Zm)->Q (M k) st):wpS (Z4 pr wd) A E s (Hx left key arr base n hint) Q st:=by
 have H:∀i,i<n->∀{Q:Wv->cj->Prop},Q (M<|B i) st->wpS (Z4 pr wd) A E s (elem' arr (base+i)>>=λx=>if left then lt' x key else lt' key x>>=λy=>pure (y.map (!·))) Q st:=λi D Q hq=>by let#[p,e,ip,fw,eb]:=hB i D;calc ZG<|JU e ?_;cases left with|true=>show w3 hk ip ik fw<|by simpa[eb]using hq|false=>show ZG (w3 hk ik ip fw<|ZK<|by simpa[eb]using hq)
 have up:∀{i j:Nat},i<=j->j<n->B i=Zm->B j=Zm:=λ{i j} ij jn e=>by cases ej:B j with|false=>rfl|true=>rw[mo i j ij jn ej]at e;cases e
 calc ZG<|H hint J ?_;dsimp only;cases eh:B hint with
 |true=>
  rw[if_pos rfl];refine ZG (k8 (lM (I:=λx c m=>m=st/\∃l o,c=(Z,l,o)/\x<o/\l<o/\hint+l<n/\B (hint+l)=Zl) (Q:=λc m=>m=st/\∃l o,c=(Z,l,o)/\l<o/\hint+l<n/\B (hint+l)=Zl/\(n<=hint+o\/B (hint+o)=Zm)) ?_ ?_ #[rfl,0,1,rfl,ZY _,ZY _,J,eh]) ?_)
  .rintro x c m _ hx ⟨rfl,l,o,rfl,O,C,F,el⟩;dsimp only;split
   .show ZK #[rfl,l,o,rfl,C,F,el,.inl 05]
   .rename_i g;calc ZG<|H (hint+o) (ir<|gh g) ?_;cases P:B (hint+o)with|true=>show ZK #[rfl,o,2*o+1,rfl,by(rw[sY];show Zb (Zc O 1)<|Zc (Zd _ _) 1),by(rw[sY];show Zc (Zd _ _) 1),ir<|gh g,P]|false=>show ZK #[rfl,l,o,rfl,C,F,el,.inr P]
  .rintro c m ⟨rfl,l,o,rfl,O,C,F,el⟩;show#[rfl,l,o,rfl,C,F,el,.inl<|Zo<|Zb (Zb (Zc (Nat.le_max_right _ _) 1) O)<|fU _ _]
  rintro c m ⟨rfl,l,o,rfl,C,F,el,e⟩;dsimp only;have Y:∀i,i<hint+l+1->B i=Zl:=λi D=>mo i _ (Z5 06) F el
  have f2:∀i,hint+min o (n-hint)<=i->i<n->B i=Zm:=λi D S=>by
   rcases e with e|e
   .show absurd (Zb (Zb (Zg (jh<|Zo J).symm)<|jN (nM.mpr #[EI.mpr e,Zk _]) _) D)<|kQ S
   .show up 05 S e
  have X:hint+l+1<=hint+min o (n-hint):=jN (nM.mpr #[C,yK F]) _;have W:hint+min o (n-hint)<=n:=jg (Zo J)<|jr _ _;generalize hint+l+1=C at *;generalize hint+min o (n-hint)=D at *;clear e el F eh;refine ZG<|uI (λx l o R on a b c=>?_) mo Y f2 X W λk k1 V U=>ZK<|h k k1 V U
  dsimp only;split
  .rename_i g;show ZK (a g)
  .calc ZG<|H (l+(o-l)/2) (Zr (sL<|gh 06) 06) ?_;cases e:B (l+(o-l)/2)with|true=>show ZK<|b _ (Zd _ _) (sL<|gh 06) rfl e|false=>show ZK<|c _ (Zd _ _) (sL<|gh 06) rfl e
 |false=>
  rw[if_neg 01];refine ZG (k8 (lM (I:=λx c m=>m=st/\∃l o,c=(Z,l,o)/\x<o/\l<o/\l<=hint/\B (hint-l)=Zm) (Q:=λc m=>m=st/\∃l o,c=(Z,l,o)/\l<o/\l<=hint/\B (hint-l)=Zm/\(hint<o\/B (hint-o)=Zl)) ?_ ?_ #[rfl,0,1,rfl,ZY _,ZY _,ZF _,eh]) ?_)
  .rintro x c m _ hx ⟨rfl,l,o,rfl,O,C,F,el⟩;dsimp only;split
   .show ZK #[rfl,l,o,rfl,C,F,el,.inl 06]
   .rename_i g;calc ZG<|H (hint-o) (Zb (Zc (eX _ _) 1) J) ?_;cases P:B (hint-o)with|false=>show ZK #[rfl,o,2*o+1,rfl,by(rw[sY];show Zb (Zc O 1)<|Zc (Zd _ _) 1),by(rw[sY];show Zc (Zd _ _) 1),ZH 06,P]|true=>show ZK #[rfl,l,o,rfl,C,F,el,.inr P]
  .rintro c m ⟨rfl,l,o,rfl,O,C,F,el⟩;show#[rfl,l,o,rfl,C,F,el,.inl<|fV 06 06]
  rintro c m ⟨rfl,l,o,rfl,C,F,el,e⟩;dsimp only;have Y:∀i,i<hint+1-min o (hint+1)->B i=Zl:=λi D=>by
   rcases e with e|e
   .show absurd (Zr D<|Zg<|rG<|nM.mpr #[e,Zk _])<|mT _
   .show mo i _ 00 (Zb (Zc (eX _ _) 1) J) e
  have f2:∀i,hint-l<=i->i<n->B i=Zm:=λi D S=>up 00 S el
  have X:hint+1-min o (hint+1)<=hint-l:=Zb (rK (nM.mpr #[C,p8 F]) _)<|Zg<|Nat.add_sub_add_right _ 1 _;have W:hint-l<=n:=Zo<|Zb (Zc (eX _ _) 1) J;generalize hint+1-min o (hint+1)=C at *;generalize hint-l=D at *;refine ZG<|uI (λx l o R on a b c=>?_) mo Y f2 X W λk k1 V U=>ZK<|h k k1 V U
  dsimp only;split
  .rename_i g;show ZK (a g)
  .calc ZG<|H (l+(o-l)/2) (Zr (sL<|gh 06) 06) ?_;cases e:B (l+(o-l)/2)with|true=>show ZK<|b _ (Zd _ _) (sL<|gh 06) rfl e|false=>show ZK<|c _ (Zd _ _) (sL<|gh 06) rfl e
end
def Ord[Rk](r:Int->Int->Prop)(l:Ts):Prop:=l.Pairwise λp q=>r (kd p)<|kd q
structure Mg[Rk](r:Int->Int->Prop)(L o a b:Ts):Prop where
 pm:(o++a++b).Perm L
 so:Ord r o
 sa:Ord r a
 sb:Ord r b
 oa:∀p∈o,∀q∈a,r (kd p)<|kd q
 ob:∀p∈o,∀q∈b,r (kd p)<|kd q
section
variable[Rk]
theorem Mg.swap(h:Mg r L o a b):Mg r L o b a:=#[by rw[iz];show(List.perm_append_comm.append_left o).trans<|(iz o a b)▸h.pm,h.so,h.sb,h.sa,h.ob,h.oa]
def Mg.step(h:Mg r L o (c++a) b)(k:∀p∈c,∀q∈b,r (kd p)<|kd q):Mg r L (o++c) a b:=by
 let#[sc,sa,ca]:=pJ.mp h.sa;refine#[by rw[iz o c a];show h.pm,pJ.mpr #[h.so,sc,λp hp q j=>h.oa p hp q<|iL _ j],sa,h.sb,λp hp q j=>?_,λp hp q j=>?_]
 .rcases ZQ.mp hp with hp|hp
  .show h.oa p hp q<|Zt _ j
  .show ca p hp q j
 .rcases ZQ.mp hp with hp|hp
  .show h.ob p hp q j
  .show k p hp q j
def Mg.fin(h:Mg r L o a b)(k:∀p∈a,∀q∈b,r (kd p)<|kd q):(o++a++b).Perm L/\Ord r (o++a++b):=by
 calc#[h.pm,pJ.mpr #[pJ.mpr #[h.so,h.sa,h.oa],h.sb,λp hp q j=>?_]];rcases ZQ.mp hp with hp|hp
 .show h.ob p hp q j
 .show k p hp q j
end
structure Run[Rk](a:Tf):Prop where
 ik:∀i,i<a.size->∃p,a[i]?=M p/\Ik p
 so:∀i j,i<=j->j<a.size->K a i<=K a j
def Xm(a:Tf)(h:i<=k)(h':k<=j):(a.extract i j).toList=(a.extract i k).toList++(a.extract k j).toList:=by rw[<-iB,Array.extract_append_extract,mS h,Nat.max_eq_right h']
def Bl{a:Tf}(e:a[i]?=M p)(o:Tf):(o.push p).toList=o.toList++(a.extract i<|i+1).toList:=by
 have D:i<a.size:=by
  rcases vm i a.size with h|h
  .show h
  .rw[zz h]at e;cases e
 have:a[i]=p:=by simpa[D]using e
 subst this;simp[List.extract_eq_drop_take,List.take_one,D]
section
variable[Rk]
def VM(h:p∈(a.extract i j).toList):∃t,i<=t/\t<j/\t<a.size/\kd p=K a t:=by
 let#[t,m,e]:=gG.mp h;have k:t<min (j-i) (a.size-i):=by simpa using m
 calc#[i+t,Zd _ _,ir<|Zb k<|p9 _ _,ir<|Zb k<|jr _ _,?_];rw[K_eq<|show i+t<a.size by show ir<|Zb k<|jr _ _];subst e;simp
def Run.ord(R:Run a)(i j):Ord (· <= ·) (a.extract i j).toList:=by
 refine vE.mpr λx y hx B m=>?_
 have k:y<min (j-i) (a.size-i):=by simpa using B
 have:=R.so (i+x) (i+y) (pd (Zk _)<|Zo m)<|ir<|Zb k<|jr _ _;rw[K_eq (show i+x<a.size by show ir<|Zo<|Zb (Zb (Zc m 1) k)<|jr _ _),K_eq<|show i+y<a.size by show ir<|Zb k<|jr _ _]at this;simpa using this
theorem X3(h:∀t,i<=t->t<j->t<a.size->K a t<=key)(h':∀t,i'<=t->t<j'->t<b.size->key<=K b t):∀p∈(a.extract i j).toList,∀q∈(b.extract i' j').toList,kd p<=kd q:=λp hp q E=>by let#[t,H,m,D,e]:=VM hp;let#[u,B,F,C,k]:=VM E;rw[e,k];show Z8 (h t H m D)<|h' u B F C
end
def lB[Rk](L:Ts)(c:Tf):Prop:=c.toList.Perm L/\Ord (· <= ·) c.toList
def Lo[Rk](a b:Tf)(o:Tf)(i j:Nat):Prop:=Mg (· <= ·) (a.toList++b.toList) o.toList (a.extract i a.size).toList (b.extract j b.size).toList
section
variable[Rk]{a b o:Tf}{i j k:Nat}{key:Int}
def Lo.cA(m:Lo a b o i j)(h:i+k<=a.size)(f:∀t,i<=t->t<i+k->t<a.size->K a t<=key)(g:∀t,j<=t->t<b.size->t<b.size->key<=K b t):Lo a b (o++a.extract i (i+k)) (i+k) j:=by unfold Lo at m ⊢;rw[Xm a (Zd i k) h]at m;rw[iB];show m.step<|X3 f g
def Lo.cB(m:Lo a b o i j)(h:j+k<=b.size)(f:∀t,j<=t->t<j+k->t<b.size->K b t<=key)(g:∀t,i<=t->t<a.size->t<a.size->key<=K a t):Lo a b (o++b.extract j (j+k)) i (j+k):=by unfold Lo at m ⊢;rw[Xm b (Zd j k) h]at m;rw[iB];show(m.swap.step<|X3 f g).swap
def Lo.pA(m:Lo a b o i j)(R:Run a)(h:i<a.size)(e:a[i]?=M p)(g:∀t,j<=t->t<b.size->t<b.size->K a i<=K b t):Lo a b (o.push p) (i+1) j:=by have:=m.cA (k:=1) h (λt B D C=>R.so t i (Z5 06) h) g;unfold Lo at this ⊢;rw[iB]at this;rwa [Bl e]
def Lo.pB(m:Lo a b o i j)(R:Run b)(h:j<b.size)(e:b[j]?=M p)(g:∀t,i<=t->t<a.size->t<a.size->K b j<=K a t):Lo a b (o.push p) i (j+1):=by have:=m.cB (k:=1) h (λt B D C=>R.so t j (Z5 06) h) g;unfold Lo at this ⊢;rw[iB]at this;rwa [Bl e]
def Lo.dn(m:Lo a b o i j)(h:i=a.size\/j=b.size):lB (a.toList++b.toList) (o++a.extract i a.size++b.extract j b.size):=by unfold lB;rw[iB,iB];show Mg.fin m λp hp q k=>by let#[t,E,B,_]:=VM hp;let#[u,C,D,_]:=VM k;lia
def Lo.la(m:Lo a b o i j)(h:i+1=a.size)(h2:∀t,t<b.size->K b t<=K a (a.size-1)):lB (a.toList++b.toList) (o++b.extract j b.size++a.extract i a.size):=by
 unfold lB;rw[iB,iB];refine m.swap.fin<|X3 (λt _ _ B=>h2 t B) λt k h2 _=>?_
 obtain rfl:t=a.size-1:=Z7 (mP 06)<|Nat.sub_le_of_le_add<|Zb (Zg h.symm)<|Zc k 1;show ZO _
end
def cP(st st':cj):Prop:=∃g,st'=qD (kindOf st) (ZT st) (cS st) g (lN st)
theorem cP.rfl{st:cj}:cP st st:=#[gallopOf st,by cases st;show sJ _]
def cP.more{st j:cj}(h:cP st j)(g):cP st (qD (kindOf j) (ZT j) (cS j) g<|lN j):=by let#[_,e]:=h;subst e;show#[g,sJ _]
def cP.kind{st j:cj}(h:cP st j):kindOf j=kindOf st:=by let#[_,e]:=h;subst e;show sJ _
section
variable[Rk]{pr:ZW}{wd:bo}{A:bM}{E:aL}{s:Zy}{st:cj}
def Qp[Decidable c](h1:c->wpS (Z4 pr wd) A E s x Q st)(h2:¬c->wpS (Z4 pr wd) A E s y Q st):wpS (Z4 pr wd) A E s (if c then x else y) Q st:=by
 split
 .show h1 ‹_›
 .show h2 ‹_›
theorem JW{i j:Nat}{x y:StateT cj Sem α}{Q:α->cj->Prop}(h1:i=j->wpS (Z4 pr wd) A E s x Q st)(h2:i≠j->wpS (Z4 pr wd) A E s y Q st):wpS (Z4 pr wd) A E s (if (i==j)=Zl then x else y) Q st:=Qp (λg=>h1<|eq_of_beq g) λg=>h2 λe=>g<|beq_iff_eq.mpr e
theorem Xc[Decidable c](h1:c->wpS (Z4 pr wd) A E s x Q st)(h2:¬c->wpS (Z4 pr wd) A E s y Q st):wpS (Z4 pr wd) A E s (if decide c=Zl then x else y) Q st:=Qp (λg=>h1<|of_decide_eq_true g) λg=>h2 λe=>g<|decide_eq_true e
def XD(hk:kindOf st=pS)(O:hint<n)(hn:base+n<=arr.size)(ik:Ik key)(I:∀t p,base<=t->t<base+n->arr[t]?=M p->Fl left key p) (H:∀i,i<arr.size->∃p,arr[i]?=M p/\Ik p)(so:∀i j,base<=i->i<=j->j<base+n->K arr i<=K arr j) (h:∀k,k<=n->(∀t,base<=t->t<base+k->K arr t<=kd key)->(∀t,base+k<=t->t<base+n->kd key<=K arr t)->Q (M k) st):wpS (Z4 pr wd) A E s (Hx left key arr base n hint) Q st:=by
 have P:∀i,i<n->∃p,arr[base+i]?=M p/\Ik p/\Fl left key p/\kd p=K arr (base+i):=λi D=>by let#[p,e,C]:=H (base+i) 05;show#[p,e,C,I _ p (Zd _ _) (rL 06 _) e,oM e]
 refine Ur (B:=λi=>if left then decide (K arr (base+i)<kd key)else !decide (kd key<K arr (base+i))) hk O (λi D=>?_) ik (λi j S R e=>?_) λk J f g=>?_
 .let#[p,e,C,f,ek]:=P i D;show#[p,e,C,f,by rw[ek]]
 .have:=so (base+i) (base+j) (Zd _ _) (jN 06 _)<|rL 06 _;cases left<;>simp at e ⊢ <;>(first|show Z8 this e|show Z1 this e|lia)
 .refine h k J (λt m F=>?_) λt m F=>?_
  .have:=f (t-base)<|EH m F;rw[show base+(t-base)=t by show jh 06]at this;cases left<;>simp at this<;>(first|show Z2 this|show this|lia)
  .have:=g (t-base) (yK m)<|EH (Zb (Zd _ _) m) F;rw[show base+(t-base)=t by show jh<|Zb (Zd _ _) m]at this;cases left<;>simp at this<;>(first|show Z2 this|show this|lia)
end
def Us:Tf->Tf->StateT cj Sem (Tf):=sortPriv% PySem.Builtin.mergeLo
inductive qV{τ:Type}(X I:τ->cj->Prop):ForInStep τ->cj->Prop|dn {c st'}:X c st'->qV X I (.done c) st'|go {c st'}:I c st'->qV X I (.yield c) st'
inductive fz{τ:Type}[Rk](st:cj)(L:Ts):Option (Tf)×τ->cj->Prop|mk {r c st'}:cP st st'->lB L r->fz st L (M r,c) st'
inductive nv{τ:Type}[Rk](st:cj)(a b:Tf)(n:Nat):Option (Tf)×Array fP×Nat×Nat×τ->cj->Prop|mk {o i j g st'}:cP st st'->Lo a b o i j->n<i+j->i+1<a.size->j<b.size->nv st a b n (Z,o,i,j,g) st'
def pY{τ:Type}(X I:τ->cj->Prop)(c:τ)(st:cj):Prop:=X c st\/I c st
def Run.el[Rk]{a:Tf}{i:Nat}{P:Prop}(R:Run a)(h:i<a.size)(k:∀p,a[i]?=M p->Ik p->P):P:=by let#[p,e,q]:=R.ik i h;show k p e q
section
variable[Rk]{pr:ZW}{wd:bo}{A:bM}{E:aL}{s:Zy}{st:cj}
def Hy[Decidable c](f:β->StateT cj Sem α){x y:β}{Q:α->cj->Prop}(h:∀z,wpS (Z4 pr wd) A E s (f z) Q st):wpS (Z4 pr wd) A E s (if c then f x else f y) Q st:=by
 split
 .show h x
 .show h y
theorem Yb{α β:Type}{a b:Nat}{f:Nat->β->StateT cj Sem (ForInStep β)}{g:β->StateT cj Sem α}{Q:α->cj->Prop}{c:β}(I:Nat->β->cj->Prop)(X:β->cj->Prop) (hs:∀i c st,i<b->I i c st->wpS (Z4 pr wd) A E s (f i c) (qV X<|I<|i+1) st)(m:∀c st,I (max a b) c st->X c st)(h:I a c st)(k:∀c st,X c st->wpS (Z4 pr wd) A E s (g c) Q st):wpS (Z4 pr wd) A E s (forIn [a:b] c f>>=g) Q st:=ZG (k8 (lM I (λi c st _ D h=>k8 (hs i c st D h) λr j h=>by cases h<;>assumption) m h) k)
def Ut{Q:Tf->cj->Prop}(hk:kindOf st=pS)(I:Run a)(C:Run b)(na:0<a.size)(nb:0<b.size)
  (fw:∀{i j:Nat}{p q:fP},a[i]?=M p->b[j]?=M q->Fw p q)(h1:∀t,t<a.size->K b 0<=K a t)(h2:∀t,t<b.size->K b t<=K a (a.size-1))(h:∀c V,lB (a.toList++b.toList) c->cP st V->Q c V):wpS (Z4 pr wd) A E s (Us a b) Q st:=by
 have kv:∀{x:Tf}{i:Nat}{p:fP},x[i]?=M p->kd p=K x i:=oM;calc ZG<|qr<|jv #[rfl,C.el nb λp0 e0 _=>?_];have m0:Lo a b #[] 0 0:=by calc#[03,zK,I.ord _ _,C.ord _ _,?_,?_]<;>(intro p hp;simp at hp)
 have U:=m0.pB C nb e0 λt _ h' _=>h1 t h'
 calc ZG<|JU e0 ?_;refine JW (λg=>ZK<|h _ _ (U.dn<|.inr g) cP.rfl) λg1=>JW (λg=>ZK<|h _ _ (U.la g h2) cP.rfl) λg2=>?_
 calc ZG<|nZ ?_;refine Yb (nv st a b) (fz st<|a.toList++b.toList) ?_ ?_ (.mk cP.rfl U nL (ZX na g2)<|ZX nb g1) ?_
 .clear U m0 e0 g1 g2 na nb;rintro x _ Y hx (@⟨o,i,j,g,_,S1,m,xl,il,jl⟩);refine Yb (λy=>nv st a b<|x+y) (pY (fz st<|a.toList++b.toList)<|nv st a b<|x+1) ?_ ?_ (.mk S1 m xl il jl) ?_
  .clear m xl il jl S1;rintro y _ H hy (@⟨o,i,j,g,_,S1,m,xl,il,jl⟩);refine C.el jl λp D ip=>I.el (fM il) λq eq iq=>?_
   refine ZG<|JU D<|ZG<|JU eq<|ZG<|w3 (S1.kind.trans hk) ip iq (fw eq D)<|Xc (λlt=>?_) λlt=>?_
   all_goals rw[kv D,kv eq]at lt
   .have P:=m.pB C jl D λt h1 h2 _=>Z8 (Z2 lt)<|I.so i t h1 h2
    refine ZG<|JU D<|JW (λg=>ZK<|.dn<|.inl<|.mk S1<|P.dn<|.inr g) λg=>?_
    have B:j+1<b.size:=ZX jl g;show Qp (λ_=>ZK<|.dn<|.inr<|.mk S1 P (vk<|ZP (Zd x y) xl) il B) λ_=>ZK<|.go<|.mk S1 P (vk xl) il B
   .have P:=m.pA I (fM il) eq λt h1 h2 _=>Z8 (dR.mp lt)<|C.so j t h1 h2
    refine ZG<|JU eq<|JW (λg=>ZK<|.dn<|.inl<|.mk S1<|P.la g h2) λg=>?_
    have B:i+1+1<a.size:=ZX il g;show Qp (λ_=>ZK<|.dn<|.inr<|.mk S1 P (by rw[mQ i];show vk<|ZP (Zd x y) xl) B jl) λ_=>ZK (.go<|.mk S1 P (by rw[mQ i];show vk xl) B jl)
  .rintro _ H (@⟨o,i,j,g,_,S1,m,xl,il,jl⟩);lia
  clear m xl il jl;rintro _ H (⟨S2,sr⟩|@⟨o,i,j,g,_,S2,m,xl,il,jl⟩)
  .show ZK<|.dn<|.mk S2 sr
  calc ZG<|qr<|jv #[rfl,?_];refine Yb (λ_=>nv st a b<|x+1) (pY (fz st<|a.toList++b.toList)<|nv st a b<|x+1) ?_ (λ_ _=>.inr) (.mk S2 m xl il jl) ?_
  .clear m xl il jl hx S2 S1;rintro y _ H _ (@⟨o,i,j,g,_,S2,m,xl,il,jl⟩);dsimp -zeta only;extract_lets -merge -useContext -underBinder z1 z2 z3 z4 z5 z6 z7 z8 z9 z10 z11 jp;refine Hy (jp ()) λB=>C.el jl λp D ip=>?_
   have J:=S2.more B;refine ZG<|pR<|ZG<|JU D<|ZG<|XD (base:=i) (n:=a.size-i) (J.kind.trans hk) (Nat.lt_sub_iff_add_lt'.mpr<|Zo il) (jg (Zb (Zd _ 2) il)<|Zk _) ip (λ_ _ _ _ e=>fw e D) I.ik (λu v _ uv hv=>I.so u v uv<|Zb hv<|jg (Zb (Zd _ 2) il)<|Zk _) λk X W S=>?_
   rw[kv D]at W S;dsimp -zeta only;extract_lets -merge -useContext -underBinder y1 jp2;have H2:∀o1 F,Lo a b o1 F j->i<=F->F+1<a.size->(∀t,F<=t->t<a.size->K b j<=K a t)->wpS (Z4 pr wd) A E s (jp2 () o1 F) (qV (pY (fz st<|a.toList++b.toList)<|nv st a b<|x+1)<|nv st a b<|x+1) _:=λo1 F U ii l1 f=>by
    have m2:=U.pB C jl D λt h1 h2 _=>f t h1 h2
    refine ZG<|JU D<|JW (λg=>ZK<|.dn<|.inl<|.mk J<|m2.dn<|.inr g) λg=>I.el (fM l1) λq eq iq=>?_
    have B:j+1<b.size:=ZX jl g;refine ZG<|JU eq<|ZG<|XD (base:=j+1) (n:=b.size-(j+1)) (J.kind.trans hk) (o9 B) (jg (Zo B)<|Zk _) iq (λ_ _ _ _ e=>fw eq e) C.ik (λu v _ uv hv=>C.so u v uv<|Zb hv<|jg (Zo B)<|Zk _) λk X W S=>?_
    rw[kv eq]at W S;dsimp -zeta only;extract_lets -merge -useContext -underBinder y2 jp3;have H3:∀o2 R,Lo a b o2 F R->j+1<=R->R<b.size->(∀t,R<=t->t<b.size->K a F<=K b t)->wpS (Z4 pr wd) A E s (jp3 () o2 R) (qV (pY (fz st<|a.toList++b.toList)<|nv st a b<|x+1)<|nv st a b<|x+1) _:=λo2 R O jj l2 f=>by
     have m4:=O.pA I (fM l1) eq λt h1 h2 _=>f t h1 h2
     refine ZG<|JU eq<|JW (λg=>ZK<|.dn<|.inl<|.mk J<|m4.la g h2) λg=>?_
     have pp:x+1<F+1+R:=05;have B:=ZX l1 g;show Qp (λ_=>ZK<|.dn<|.inr<|.mk J m4 pp B l2) λ_=>ZK<|.go<|.mk J m4 pp B l2
    refine Qp (λ_=>?_) λg=>?_
    .have O:=m2.cB (k:=k) (jg (Zo B) X) (λt h1 h2 _=>W t h1 h2) λt h1 h2 _=>I.so F t h1 h2
     refine JW (λg=>ZK<|.dn<|.inl<|.mk J<|O.dn<|.inr g) λg=>?_
     have B:¬j+1+k=b.size:=g;show H3 _ (j+1+k) O (Zd _ _) (ZX (jg (Zo 06) X) B) λt h1 h2=>S t h1<|Zb h2<|Zg (jh<|Zo 06).symm
    .show H3 _ (j+1) m2 (Zk _) B λt h1 h2=>S t 05<|Zb h2<|Zg (jh<|Zo B).symm
   refine Qp (λ_=>?_) λg=>?_
   .have O:=m.cA (k:=k) (jg (Zb (Zd _ 2) il) X) (λt h1 h2 _=>W t h1 h2) λt h1 h2 _=>C.so j t h1 h2
    refine JW (λg=>ZK<|.dn<|.inl<|.mk J<|O.la g h2) λg=>JW (λg=>ZK<|.dn<|.inl<|.mk J<|O.dn<|.inl g) λg2=>?_
    have B:¬i+k+1=a.size:=g;have g2':¬i+k=a.size:=g2;show H2 _ (i+k) O (Zd _ _) (ZX (ZX (jg (Zb (Zd _ 2) il) X) g2') B) λt h1 h2=>S t h1<|Zb h2<|Zg (jh<|Zb (Zd _ 2) il).symm
   .show H2 _ i m (Zk _) il λt h1 h2=>S t 05<|Zb h2<|Zg (jh<|Zb (Zd _ 2) il).symm
  clear m xl il jl;rintro _ H (⟨S2,sr⟩|@⟨o,i,j,g,_,S2,m,xl,il,jl⟩)
  .show ZK<|.dn<|.mk S2 sr
  show ZG<|pR<|ZK<|.go<|.mk (S2.more _) m xl il jl
 .rintro _ Y (@⟨o,i,j,g,_,S1,m,xl,il,jl⟩);lia
 .rintro _ Y ⟨S1,sr⟩;show ZK<|h _ _ sr S1
end
def Hi[Rk](a b:Tf)(o:Tf)(i j:Nat):Prop:=Mg (λx y=>y<=x) (a.toList++b.toList) o.toList (a.extract 0 i).toList.reverse (b.extract 0 j).toList.reverse
section
variable[Rk]{a b o:Tf}{i j k:Nat}{key:Int}
def Hi.cA(m:Hi a b o i j)(h:k<=i)(f:∀t,k<=t->t<i->t<a.size->key<=K a t)(g:∀t,0<=t->t<j->t<b.size->K b t<=key):Hi a b (o++(a.extract k i).reverse) k j:=by unfold Hi at m ⊢;rw[Xm a (ZF k) h,List.reverse_append]at m;rw[iB,sG];show m.step λp hp q B=>X3 g f q (nW.mp B) p<|nW.mp hp
def Hi.cB(m:Hi a b o i j)(h:k<=j)(f:∀t,k<=t->t<j->t<b.size->key<=K b t)(g:∀t,0<=t->t<i->t<a.size->K a t<=key):Hi a b (o++(b.extract k j).reverse) i k:=by unfold Hi at m ⊢;rw[Xm b (ZF k) h,List.reverse_append]at m;rw[iB,sG];show(m.swap.step λp hp q B=>X3 g f q (nW.mp B) p<|nW.mp hp).swap
def Hz(h:0<i)(e:a[i-1]?=M p):(o.push p).toList=(o++(a.extract (i-1) i).reverse).toList:=by have:=Bl e #[];rw[show i-1+1=i by show j2 06]at this;rw[iB,sG,<-mZ (a.extract (i-1) i).toList,<-this];simp
def Hi.pA(m:Hi a b o i j)(h:0<i)(e:a[i-1]?=M p)(g:∀t,0<=t->t<j->t<b.size->K b t<=K a (i-1)):Hi a b (o.push p) (i-1) j:=by have:=m.cA (k:=i-1) (eX _ _) (λt B C D=>by rw[show t=i-1 by show Z7 (mP C) B];show ZO _) g;unfold Hi at this ⊢;rwa [Hz h e]
def Hi.pB(m:Hi a b o i j)(h:0<j)(e:b[j-1]?=M p)(g:∀t,0<=t->t<i->t<a.size->K a t<=K b (j-1)):Hi a b (o.push p) i (j-1):=by have:=m.cB (k:=j-1) (eX _ _) (λt B C D=>by rw[show t=j-1 by show Z7 (mP C) B];show ZO _) g;unfold Hi at this ⊢;rwa [Hz h e]
def Mg.rev(h:(x++y.reverse++z.reverse).Perm L/\Ord (λx y=>y<=x) (x++y.reverse++z.reverse)):(z++y++x.reverse).Perm L/\Ord (· <= ·) (z++y++x.reverse):=by have e:z++y++x.reverse=(x++y.reverse++z.reverse).reverse:=03;rw[e];show#[(vI _).trans h.1,E2.mpr h.2]
def Hi.dn(m:Hi a b o i j)(h:i=0\/j=0):lB (a.toList++b.toList) (a.extract 0 i++b.extract 0 j++o.reverse):=by unfold lB;rw[iB,iB,sG];show Mg.rev (m.swap.fin λp hp q k=>by let#[t,E,B,_]:=VM<|nW.mp hp;let#[u,C,D,_]:=VM<|nW.mp k;lia)
def Hi.fb(m:Hi a b o i j)(h:j=1)(h1:∀t,t<a.size->K b 0<=K a t):lB (a.toList++b.toList) (b.extract 0 j++a.extract 0 i++o.reverse):=by
 unfold lB;rw[iB,iB,sG];refine Mg.rev<|m.fin λp hp q C=>X3 (λt _ k _=>?_) (λt _ _ B=>h1 t B) q (nW.mp C) p<|nW.mp hp
 rw[show t=0 by show Z7 (Z5<|Zb k<|Zg h)<|ZF _];show ZO _
end
inductive ny{τ:Type}[Rk](st:cj)(a b:Tf)(n:Nat):Option (Tf)×Nat×Nat×Array fP×τ->cj->Prop|mk {i j o g st'}:cP st st'->Hi a b o i j->n+i+j<a.size+b.size->0<i->i<=a.size->1<j->j<=b.size->ny st a b n (Z,i,j,o,g) st'
def Uu:Tf->Tf->StateT cj Sem (Tf):=sortPriv% PySem.Builtin.mergeHi
section
variable[Rk]{pr:ZW}{wd:bo}{A:bM}{E:aL}{s:Zy}{st:cj}
def Uv{Q:Tf->cj->Prop}(hk:kindOf st=pS)(J:Run a)(U:Run b)(na:0<a.size)(nb:0<b.size)
  (fw:∀{i j:Nat}{p q:fP},a[i]?=M p->b[j]?=M q->Fw p q)(h1:∀t,t<a.size->K b 0<=K a t)(h2:∀t,t<b.size->K b t<=K a (a.size-1))(h:∀c st',lB (a.toList++b.toList) c->cP st st'->Q c st'):wpS (Z4 pr wd) A E s (Uu a b) Q st:=by
 have kv:∀{x:Tf}{i:Nat}{p:fP},x[i]?=M p->kd p=K x i:=oM;calc ZG<|qr<|jv #[rfl,J.el (lG na nL) λp0 e0 _=>?_];have rv:∀{x:Tf}(R:Run x)(i:Nat),Ord (λx y=>y<=x) (x.extract 0 i).toList.reverse:=λR i=>E2.mpr<|R.ord 0 i
 have m0:Hi a b #[] a.size b.size:=by
  refine#[?_,zK,rv J _,rv U _,?_,?_]
  .show(((vI _).append<|vI _).trans 03)
  all_goals (intro p hp;simp at hp)
 have m1:=m0.pA na e0 λt _ h' _=>h2 t h'
 calc ZG<|JU e0 ?_;refine JW (i:=a.size-1) (j:=0) (λg=>ZK<|h _ _ (m1.dn<|.inl g) cP.rfl) λg1=>JW (i:=b.size) (j:=1) (λg=>ZK<|h _ _ (m1.fb g h1) cP.rfl) λg2=>?_
 calc ZG<|nZ ?_;refine Yb (ny st a b) (fz st<|a.toList++b.toList) ?_ ?_ (.mk cP.rfl m1 05 (lD g1) (eX _ _) (ZX nb<|ZV g2)<|Zk _) ?_
 .clear m1 m0 e0 g1 g2 na nb rv;rintro x _ st1 hx (@⟨i,j,o,g,_,S1,m,xl,il,ia,jl,jb⟩);refine Yb (λy=>ny st a b<|x+y) (pY (fz st<|a.toList++b.toList)<|ny st a b<|x+1) ?_ ?_ (.mk S1 m xl il ia jl jb) ?_
  .clear m xl il ia jl jb S1;rintro y _ F hy (@⟨i,j,o,g,_,S1,m,xl,il,ia,jl,jb⟩);have O:j-1<b.size:=vj (fM jl) jb;have Y:i-1<a.size:=vj il ia;refine U.el O λp D ip=>J.el Y λq eq iq=>?_
   refine ZG<|JU D<|ZG<|JU eq<|ZG<|w3 (S1.kind.trans hk) ip iq (fw eq D)<|Xc (λlt=>?_) λlt=>?_
   all_goals rw[kv D,kv eq]at lt
   .have S:=m.pA il eq λt _ h2 _=>Z8 (U.so t (j-1) (kP h2) O)<|Z2 lt
    refine ZG<|JU eq<|JW (i:=i-1) (j:=0) (λg=>ZK<|.dn<|.inl<|.mk S1<|S.dn<|.inl g) λg=>?_
    have B:=lD g;have i':=Zb (eX i 1) ia;show Qp (λ_=>ZK<|.dn<|.inr<|.mk S1 S (FF il<|ZP (Zc (Zc (Zd x y) i) j) xl) B i' jl jb) λ_=>ZK<|.go<|.mk S1 S (FF (x:=x+y) il xl) B i' jl jb
   .have S:=m.pB (fM jl) D λt _ h2 _=>Z8 (J.so t (i-1) (kP h2) Y)<|dR.mp lt
    refine ZG<|JU D<|JW (i:=j-1) (j:=1) (λg=>ZK<|.dn<|.inl<|.mk S1<|S.fb g h1) λg=>?_
    have B:1<j-1:=ZX (kP jl)<|ZV g;have j':=Zb (eX j 1) jb;show Qp (λ_=>ZK<|.dn<|.inr<|.mk S1 S (FG (fM jl)<|ZP (Zc (Zc (Zd x y) i) j) xl) il ia B j') λ_=>ZK<|.go<|.mk S1 S (FG (x:=x+y) (fM jl) xl) il ia B j'
  .rintro _ F (@⟨i,j,o,g,_,S1,m,xl,il,ia,jl,jb⟩);lia
  clear m xl il ia jl jb;rintro _ F (⟨S2,sr⟩|@⟨i,j,o,g,_,S2,m,xl,il,ia,jl,jb⟩)
  .show ZK<|.dn<|.mk S2 sr
  calc ZG<|qr<|jv #[rfl,?_];refine Yb (λ_=>ny st a b<|x+1) (pY (fz st<|a.toList++b.toList)<|ny st a b<|x+1) ?_ (λ_ _=>.inr) (.mk S2 m xl il ia jl jb) ?_
  .clear m xl il ia jl jb hx S2 S1;rintro y _ F _ (@⟨i,j,o,g,_,S2,m,xl,il,ia,jl,jb⟩);dsimp -zeta only;extract_lets -merge -useContext -underBinder z1 z2 z3 z4 z5 z6 z7 z8 z9 z10 z11 jp;have O:j-1<b.size:=vj (fM jl) jb;refine Hy (jp ()) λB=>U.el O λp D ip=>?_
   have I:=S2.more B;calc ZG (pR<|ZG<|JU D<|ZG<|XD (base:=0) (n:=i) (hint:=i-1) (I.kind.trans hk) (lG il nL) (by rw[mU];show ia) ip (λ_ _ _ _ e=>fw e D) J.ik (λu v _ uv hv=>J.so u v uv<|Zr hv<|by rw[mU];show ia) λk W H X=>?_);rw[kv D]at H X;rw[mU]at H X;dsimp -zeta only;extract_lets -merge -useContext -underBinder y0 y1 jp2;have H2:∀C o1,Hi a b o1 C j->C<=i->0<C->(∀t,t<C->K a t<=K b (j-1))->wpS (Z4 pr wd) A E s (jp2 () C o1) (qV (pY (fz st<|a.toList++b.toList)<|ny st a b<|x+1)<|ny st a b<|x+1) _:=λC o1 m1 ii l1 f=>by
    have m2:=m1.pB (fM jl) D λt _ h2 _=>f t h2
    have Y:C-1<a.size:=vj l1<|Zb ii ia;refine ZG<|JU D<|JW (i:=j-1) (j:=1) (λg=>ZK<|.dn<|.inl<|.mk I<|m2.fb g h1) λg=>J.el Y λq eq iq=>?_
    have B:1<j-1:=ZX (kP jl)<|ZV g;calc ZG (JU eq<|ZG<|XD (base:=0) (n:=j-1) (hint:=j-1-1) (I.kind.trans hk) (lG (fM B) nL) (by rw[mU];show Zo O) iq (λ_ _ _ _ e=>fw eq e) U.ik (λu v _ uv hv=>U.so u v uv<|fV hv<|by rw[mU];show O) λk W H X=>?_);rw[kv eq]at H X;rw[mU]at H X;dsimp -zeta only;extract_lets -merge -useContext -underBinder y2 y3 jp3;have H3:∀V o2,Hi a b o2 C V->V<=j-1->1<V->(∀t,t<V->K b t<=K a (C-1))->wpS (Z4 pr wd) A E s (jp3 () V o2) (qV (pY (fz st<|a.toList++b.toList)<|ny st a b<|x+1)<|ny st a b<|x+1) _:=λV o2 P jj l2 f=>by
     have m4:=P.pA l1 eq λt _ h2 _=>f t h2
     refine ZG<|JU eq<|JW (i:=C-1) (j:=0) (λg=>ZK<|.dn<|.inl<|.mk I<|m4.dn<|.inl g) λg=>?_
     have pp:x+1+(C-1)+V<a.size+b.size:=ZP (pd (jN (Zb (eX _ _) ii) _)<|Zb jj<|eX _ _) xl;have i':=Zo Y;have j':=Zo<|ZP jj O;have B:=lD g;show Qp (λ_=>ZK<|.dn<|.inr<|.mk I m4 pp B i' l2 j') λ_=>ZK<|.go<|.mk I m4 pp B i' l2 j'
    refine Qp (λ_=>?_) λg=>?_
    .have P:=m2.cB (k:=k) W (λt h1 h2 _=>X t h1<|by rw[mU];show h2) λt _ h2 _=>J.so t (C-1) (kP h2) Y
     refine JW (i:=k) (j:=1) (λg=>ZK<|.dn<|.inl<|.mk I<|P.fb g h1) λg=>JW (i:=k) (j:=0) (λg=>ZK<|.dn<|.inl<|.mk I<|P.dn<|.inr g) λg2=>?_
     show H3 k _ P W (ZX (lD g2)<|ZV g) λt h1=>H t (ZF _) h1
    .have k0:j-1=k:=Z7 (yL<|sZ.mp<|iJ.mp g) W;show H3 (j-1) _ m2 (Zk _) B λt h1=>H t (ZF _)<|k0▸h1
   refine Qp (λ_=>?_) λg=>?_
   .have P:=m.cA (k:=k) W (λt h1 h2 _=>X t h1<|by rw[mU];show h2) λt _ h2 _=>U.so t (j-1) (kP h2) O
    show JW (i:=k) (j:=0) (λg=>ZK<|.dn<|.inl<|.mk I<|P.dn<|.inl g) λg=>H2 k _ P W (lD g) λt h1=>H t (ZF _) h1
   .have k0:i=k:=Z7 (yL<|sZ.mp<|iJ.mp g) W;show H2 i _ m (Zk _) il λt h1=>H t (ZF _)<|k0▸h1
  clear m xl il ia jl jb;rintro _ F (⟨S2,sr⟩|@⟨i,j,o,g,_,S2,m,xl,il,ia,jl,jb⟩)
  .show ZK<|.dn<|.mk S2 sr
  show ZG<|pR<|ZK<|.go<|.mk (S2.more _) m xl il ia jl jb
 .rintro _ st1 (@⟨i,j,o,g,_,S1,m,xl,il,ia,jl,jb⟩);lia
 .rintro _ st1 ⟨S1,sr⟩;show ZK<|h _ _ sr S1
end
theorem HA:∀(l:Ts)(n:Nat)(xs:Tf)(t:Nat),sa+n+l.length<=xs.size->((l.zipIdx n).foldl (λa (q:fP×Nat)=>a.setIfInBounds (sa+q.2) q.1) xs)[t]?=if sa+n<=t/\t<sa+n+l.length then l[t-(sa+n)]? else xs[t]?
 |[],n,xs,t,_=>by rw[if_neg<|by simp_all];rfl
 |p::l,n,xs,t,h=>by
  simp![ji]at h ⊢;rw[List.zipIdx_cons,vN,HA l (n+1) _ t (by rw[Fc];lia),zy];dsimp only;by_cases e:sa+n=t
  .subst e;rw[if_neg 05,if_pos rfl,if_pos<|ZP (Zd _ _) 06,if_pos (by(rw[Nat.add_left_comm];show#[(Zk _),(fU _ _)])),vn];rfl
  .rw[if_neg e];by_cases g:sa+(n+1)<=t/\t<sa+(n+1)+l.length
   .rw[if_pos g,if_pos 05,show t-(sa+n)=t-(sa+(n+1))+1 by show(j2<|o9 g.1).symm];rfl
   .rw[if_neg g,if_neg 05]
def lay(sa:Nat)(m xs:Tf):Tf:=m.toList.zipIdx.foldl (λa (q:fP×Nat)=>a.setIfInBounds (sa+q.2) q.1) xs
def HB(h:sa+m.size<=xs.size)(t):(lay sa m xs)[t]?=if sa<=t/\t<sa+m.size then m[t-sa]? else xs[t]?:=by
 have:=HA m.toList 0 xs t<|by simpa using h
 unfold lay;simpa using this
def Uw[Rk](h:sa+m.size<=xs.size)(t):K (lay sa m xs) t=if sa<=t/\t<sa+m.size then K m (t-sa)else K xs t:=by
 have:=HB h t;by_cases g:sa<=t/\t<sa+m.size
 .rw[if_pos g]at this ⊢;show Qv this
 .rw[if_neg g]at this ⊢;show Qv this
def Ux(l):∀(k pre j:Ts)(n:Nat),k.length=l.length->pre.length=sa+n->((l.zipIdx n).foldl (λa (q:fP×Nat)=>a.setIfInBounds (sa+q.2) q.1) (pre++(k++j)).toArray).toList=pre++(l++j):=by induction l with|nil=>intro k pre j n h _;rw[vG.mp h];rfl|cons p l m=>intro k pre j n h e;let#[q,k,rfl]:=List.exists_cons_of_length_eq_add_one h;rw[List.zipIdx_cons,vN,List.setIfInBounds_toArray];dsimp only;rw[<-e,E3 _ _<|Zk _,vn,j8,vH,List.append_cons pre p<|k++j,m k (pre++[p]) j (n+1) (Nat.succ.inj h) (by rw[ZM,e];rfl),<-List.append_cons];rfl
def Uy(h1:sa<=sb)(h2:sb<=e)(h3:e<=xs.size)(h:m.toList.Perm<|(xs.extract sa sb).toList++(xs.extract sb e).toList):m.size=e-sa/\(lay sa m xs).Perm xs:=by
 have ex:xs.toList=(xs.extract 0 sa).toList++((xs.extract sa e).toList++(xs.extract e xs.size).toList):=by rw[<-iz,<-Xm xs (ZF _) (Zb h1 h2),<-Xm xs (ZF _) h3];simp
 rw[<-Xm xs h1 h2]at h;have k:=h.length_eq;have B:(xs.extract sa e).toList.length=e-sa:=by rw[gH,tX,mS h3]
 calc#[k.trans B,vW.mpr ?_];unfold lay;have j:=Ux m.toList (xs.extract sa e).toList (xs.extract 0 sa).toList (xs.extract e xs.size).toList 0 k.symm<|by rw[gH,tX,mS<|Zb (Zb h1 h2) h3];rfl
 rw[<-ex]at j;rw[j];conv=>rhs;rw[ex]
 show(h.append_right _).append_left _
def Cut[Rk](xs:Tf)(c:Nat):Prop:=∀ ⦃t u:Nat⦄ ⦃p q:fP⦄,t<c->c<=u->xs[t]?=M p->xs[u]?=M q->Fw p q
def HD{xs:Tf}:p∈xs.toList.take c↔∃t,t<c/\xs[t]?=M p:=by
 rw[sg];calc#[λ⟨t,e⟩=>?_,λ⟨t,h,e⟩=>#[t,by rw[EV h,lO];show e]];rw[za]at e;split at e
 .rename_i h;show#[t,h,by rw[<-lO];show e]
 .cases e
def HE{xs:Tf}:p∈xs.toList.drop c↔∃t,c<=t/\xs[t]?=M p:=by
 rw[sg];refine#[λ⟨t,e⟩=>#[c+t,Zd _ _,?_],λ⟨t,h,e⟩=>#[t-c,?_]]
 .simp_all
 .simp_all
def Cut.keep[Rk](h:Cut xs c)(p:ys.Perm xs)(e:(∀t,t<c->ys[t]?=xs[t]?)\/∀t,c<=t->ys[t]?=xs[t]?):Cut ys c:=by
 have p:=vW.mp p;rw[<-tI c ys.toList,<-tI c xs.toList]at p;have j:(ys.toList.take c).Perm (xs.toList.take c)/\(ys.toList.drop c).Perm (xs.toList.drop c):=by
  rcases e with e|e
  .have q:ys.toList.take c=xs.toList.take c:=by
    refine pL λt=>?_
    rw[za,za,lO,lO];split
    .show e t ‹_›
    .rfl
   rw[q]at p ⊢;show#[.refl _,(List.perm_append_left_iff _).mp p]
  .have q:ys.toList.drop c=xs.toList.drop c:=by
    refine pL λt=>?_
    rw[zb,zb,lO,lO];show e _<|Zd _ _
   rw[q]at p ⊢;show#[(List.perm_append_right_iff _).mp p,.refl _]
 intro t u p q D E F eq;let#[I,m,B]:=HD.mp<|j.1.mem_iff.mp<|HD.mpr #[t,D,F];let#[H,k,C]:=HE.mp<|j.2.mem_iff.mp<|HE.mpr #[u,E,eq];show h m k B C
def So[Rk](xs:Tf)(i j:Nat):Prop:=∀t u,i<=t->t<=u->u<j->K xs t<=K xs u
structure Pd[Rk](xs:Tf)(p:Wa)(B:Nat->Nat)(lo D:Nat):Prop where
 b0:B 0=0
 bl:B p.size=lo
 up:∀k,k<p.size->B k<B (k+1)
 ix:∀k,k<p.size->∃w,p[k]?=M (B k,B (k+1)-B k,w)
 so:∀k,k<p.size->So xs (B k) (B<|k+1)
 ct:∀k,k<=p.size->Cut xs (B k)
 lh:lo<=D
 cl:∀c,D<=c->Cut xs c
structure Bs(a₀:Tf)(st:cj):Prop where
 perm:(ZT st).Perm a₀
 kind:kindOf st=pS
 ok:lN st=Z
theorem Bs.ik{st:cj}(h:Bs a₀ st)(h0:IntKeys a₀)(i)(D:i<(ZT st).size):∃p,(ZT st)[i]?=M p/\Ik p:=#[(ZT st)[i],getElem?_pos _ i D,h0 _<|(vW.mp h.perm).mem_iff.mp 03]
section
variable[Rk]{xs:Tf}{p:Wa}{B:Nat->Nat}{lo z:Nat}
theorem Pd.mono(P:Pd xs p B lo z):∀{v:Nat},u<=v->v<=p.size->B u<=B v
 |0,h,_=>by rw[sZ.mp h];show Zk _
 |v+1,h,h'=>by
  rcases vm u (v+1)with g|g
  .show Zb (P.mono (Z5 06)<|Zo 06)<|Zo<|P.up v<|h'
  .rw[show u=v+1 by show Z7 h g];show Zk _
theorem Pd.ge(P:Pd xs p B lo z):∀{v:Nat},v<=p.size->v<=B v
 |0,_=>ZF _
 |v+1,h=>ZP (P.ge<|Zo 06)<|P.up v h
omit [Rk] in
def HF(x)(D:i+1<p.size):((p.setIfInBounds i x).eraseIdxIfInBounds<|i+1).size=p.size-1:=by rw[Fd,dif_pos (by simpa using D),Array.size_eraseIdx,Fc]
def Pd.merged(P:Pd xs p B lo z)(D:i+1<p.size)(pm:ys.Perm xs)(m:∀t,t<B i\/B (i+1+1)<=t->ys[t]?=xs[t]?)(so:So ys (B i)<|B<|i+1+1):
  Pd ys ((p.setIfInBounds i (B i,B (i+1)-B i+(B (i+1+1)-B (i+1)),w)).eraseIdxIfInBounds<|i+1) (λk=>if k<=i then B k else B (k+1)) lo z:=by
 have sz:=HF (B i,B (i+1)-B i+(B (i+1+1)-B (i+1)),w) D;have top:B (i+1+1)<=lo:=by rw[<-P.bl];show P.mono D<|Zk _
 refine#[by simpa using P.b0,?_,λk C=>?_,λk C=>?_,λk C=>?_,λk C=>?_,P.lh,λc O=>(P.cl c O).keep pm<|.inr λt F=>m t<|.inr (by have:=P.lh;show Zb (Zb (Zb top this) O) F)]
 .rw[sz,if_neg (by show kQ<|Nat.lt_sub_of_add_lt D),show p.size-1+1=p.size by lia];show P.bl
 all_goals rw[sz]at C
 .by_cases a:k+1<=i
  .rw[if_pos (by show Zo 06),if_pos a];show P.up k<|by show Zb (Zd _ 2)<|Zb (Zc a 2) D
  .rw[if_neg a];by_cases b:k<=i
   .rw[if_pos b];show fV (P.up k<|by show Zo<|Zb (Zc (Zc b 1) 1) D) (P.up (k+1)<|by show Zb (Zc b 2) D)
   .rw[if_neg b];show P.up (k+1)<|by(rw[lE];show ir C)
 .rw[Fd,dif_pos (by simpa using D),Array.getElem?_eraseIdx];by_cases a:k<i+1
  .rw[if_pos a,zy,if_pos<|show k<=i by show Z5 06];by_cases b:i=k
   .subst b;rw[if_pos rfl,if_pos (by show fM 06),if_neg<|by show kQ 06];have H:=P.up i<|by show fM 06
    have I:=P.up (i+1)<|by show D
    show#[w,by rw[show B (i+1+1)-B i=B (i+1)-B i+(B (i+1+1)-B (i+1)) by lia]]
   .rw[if_neg b,if_pos<|by show ZX (Z5 a)<|ZV b];show P.ix k<|by show fV 06 06
  .rw[if_neg a,zy,if_neg (by show Zw<|Zb (ZH a)<|Zd _ 1),if_neg (by show kQ<|ZH a),if_neg<|by show kQ<|Zb (ZH a)<|Zd _ 1];show P.ix (k+1)<|by(rw[lE];show ir C)
 .have eq:∀{j:Nat},j<p.size->(B (j+1)<=B i\/B (i+1+1)<=B j)->So ys (B j) (B<|j+1):=λ{j} Q h t u H I J=>by rw[Qv<|m t<|h.imp (λE=>(Zb (Zb (Zc I 1) J) E)) λE=>(Zb E H),Qv<|m u<|h.imp (λE=>(Zb J E)) λE=>(Zb (Zb E H) I)];show P.so j Q t u H I J
  by_cases a:k+1<=i
  .rw[if_pos (by show Zo 06),if_pos a];show eq (by show Zb (Zd _ 2)<|Zb (Zc a 2) D) (.inl<|P.mono a<|by show Zb (Zd _ 2) D)
  .rw[if_neg a];by_cases b:k<=i
   .rw[if_pos b,show k=i by show Z7 b<|Z5<|gh a];show so
   .rw[if_neg b];show eq (by(rw[lE];show ir C)) (.inr<|P.mono (by show Zc (gh b) 1)<|by show Zb C<|eX _ _)
 .by_cases a:k<=i
  .rw[if_pos a];have:=P.mono a<|by show Zb (Zd _ 2) D
   show(P.ct k<|by show Zb (Zd _ 2)<|Zb (Zc a 2) D).keep pm (.inl λt F=>m t<|.inl<|by show Zr 06 06)
  .rw[if_neg a];have:=P.mono (show i+1+1<=k+1 by show Zc (gh a) 1) 05;show(P.ct (k+1) 05).keep pm (.inr λt F=>m t<|.inr<|by show Zb this F)
end
section
variable[Rk]{pr:ZW}{wd:bo}{A:bM}{E:aL}{s:Zy}{st:cj}{a₀:Tf}
def Uz(h:Q ⟨⟩ x):wpS (Z4 pr wd) A E s (set x:StateT cj Sem PUnit) Q st:=by unfold wpS;rw[StateT.run_set];show Zp #[rfl,h]
def So.run(ik:∀i,i<xs.size->∃p,xs[i]?=M p/\Ik p)(h:So xs i j)(B:j<=xs.size):Run (xs.extract i j)/\∀t,t<j-i->K (xs.extract i j) t=K xs (i+t):=by
 have g:∀t,t<j-i->(xs.extract i j)[t]?=xs[i+t]?:=λt k=>by rw[Fe,if_pos 05]
 have sz:(xs.extract i j).size=j-i:=by rw[tX];show Z7 (rJ (p9 _ _) _)<|rJ (nM.mpr #[(Zk _),B]) _
 refine#[#[λt k=>?_,λt u C m=>?_],λt k=>Qv<|g t k]
 .rw[sz]at k;rw[g t k];show ik _<|Zb (ir k) B
 .rw[sz]at m;rw[Qv<|g t<|ZP 06 06,Qv<|g u m];show h _ _ (Zd _ _) (jN 06 _)<|ir m
def UA(h1:x<=u)(h2:u<y)(h3:y<=v)(h4:v<=z)(S:v<=xs.size)(D:So xs x y)(F:So xs y z)(V:∀t,x<=t->t<u->K xs t<=K xs y)(U:∀t,u<=t->t<y->K xs y<=K xs t) (g1:∀t,y<=t->t<v->K xs t<=K xs (y-1))(g2:∀t,v<=t->t<z->K xs (y-1)<=K xs t)(X:m.size=v-u)(W:m.toList.Perm<|(xs.extract u y).toList++(xs.extract y v).toList)(mo:Ord (· <= ·) m.toList):So (lay u m xs) x z/\∀t,t<x\/z<=t->(lay u m xs)[t]?=xs[t]?:=by
 have e:u+m.size=v:=05;have J:=Uw (sa:=u) (m:=m) (xs:=xs)<|Zb (Zg e) S;rw[e]at J;have Q:y-1<y:=lG (ZP (ZF _) h2) nL;have P:∀{t},t<y->t<=y-1:=kP;have E:∀t,t<m.size->K xs y<=K m t/\K m t<=K xs (y-1):=λt O=>by
  have hm:m[t]∈m.toList:=03;rw[K_eq O];rcases ZQ.mp (W.mem_iff.mp hm)with w|w
  .let#[r,H,C,_,e]:=VM w;rw[show kd m[t]=K xs r from e];show#[U r H C,D r _ (Zb h1 H) (P C) Q]
  .let#[r,H,C,_,e]:=VM w;rw[show kd m[t]=K xs r from e];show#[F _ r (Zk _) H<|Zr C h4,g1 r H C]
 have Y:∀t r,t<=r->r<m.size->K m t<=K m r:=λt r tr I=>by
  rcases yM tr with w|w
  .rw[K_eq<|fV w I,K_eq I];show(vE.mp mo) t r (fV w I) I w
  .rw[w];show ZO _
 have lk:=U (y-1) (P h2) Q;have B:∀{t},u<=t->t<v->t-u<m.size:=λa b=>by rw[X];show Nat.sub_lt_sub_right a b
 calc#[λt r a b c=>?_,λt O=>by rw[HB<|Zb (Zg e) S,if_neg 05]];rw[J,J];by_cases t1:t<u
 .have R:=V t a t1;rw[if_neg λw=>iJ.mpr w.1 t1];by_cases k:r<u
  .rw[if_neg λw=>iJ.mpr w.1 k];show D t r a b<|fV k h2
  have k:=iJ.mp k;by_cases j:r<v
  .rw[if_pos #[k,j]];show Z8 R (E _<|B k j).1
  .rw[if_neg λw=>j w.2];show Z8 R<|Z8 lk<|g2 r (iJ.mp j) c
 have t1:=iJ.mp t1;have k:=Zb t1 b;by_cases t2:t<v
 .rw[if_pos #[t1,t2]];by_cases j:r<v
  .rw[if_pos #[k,j]];show Y _ _ (rJ b u)<|B k j
  .rw[if_neg λw=>j w.2];show Z8 (E _<|B t1 t2).2 (g2 r (iJ.mp j) c)
 .have t2:=iJ.mp t2;rw[if_neg λw=>iJ.mpr t2 w.2,if_neg λw=>iJ.mpr (Zb t2 b) w.2];show F t r (Zb h3 t2) b c
theorem So.join(j:So xs x y)(k:So xs y z)(h:∀t u,x<=t->t<y->y<=u->u<z->K xs t<=K xs u):So xs x z:=λt u a b c=>by
 by_cases u1:u<y
 .show j t u a b u1
 by_cases t1:t<y
 .show h t u a t1 (iJ.mp u1) c
 .show k t u (iJ.mp t1) b c
def HG{lo z i:Nat}(O:Bs a₀ st)(h0:IntKeys a₀)(P:Pd (ZT st) (cS st) B lo z)(D:i+1<(cS st).size)(hl:lo<=a₀.size) (h:∀C,Bs a₀ C->Pd (ZT C) (cS C) (λk=>if k<=i then B k else B (k+1)) lo z->(cS C).size+1=(cS st).size->(∀t,lo<=t->K (ZT C) t=K (ZT st) t)->Q Zl C):wpS (Z4 pr wd) A E s (mergeAt' i) Q st:=by
 let#[w,e1]:=P.ix i<|fM D;let#[w2,e2]:=P.ix (i+1) D;have u1:=P.up i<|fM D;have u2:=P.up (i+1) D;have u3:B (i+1+1)<=lo:=by rw[<-P.bl];show P.mono D<|Zk _
 have F:=P.so i<|fM D;have I:=P.so (i+1) D;have u4:B (i+1+1)<=(ZT st).size:=by rw[O.perm.size_eq];show Zb u3 hl
 have U:=Zr u2 u4;have ik:=O.ik h0;have next:∀{V:Tf}{g:Nat},V.Perm (ZT st)->So V (B i) (B<|i+1+1)->(∀t,t<B i\/B (i+1+1)<=t->V[t]?=(ZT st)[t]?)->Q Zl (qD (kindOf st) V (((cS st).setIfInBounds i (B i,B (i+1)-B i+(B (i+1+1)-B (i+1)),w)).eraseIdxIfInBounds<|i+1) g<|lN st):=λ{V g} p so R=>by have z:=HF (i:=i) (p:=cS st) (B i,B (i+1)-B i+(B (i+1+1)-B (i+1)),w) D;show h _ #[p.trans O.perm,O.kind,O.ok] (P.merged (w:=w) D p R so) ((congrArg (· + 1) z).trans<|j2<|ZP (ZF _) D) λt S=>Qv<|R t<|.inr<|Zb u3 S
 have ct:=P.ct (i+1)<|Zo D;have kv:∀{j:Nat}{p:fP},(ZT st)[j]?=M p->kd p=K (ZT st) j:=oM;calc ZG<|nZ ?_;rw[e1,e2];calc ZG<|Uz ?_;generalize B (i+1+1)=z at *;generalize B (i+1)=y at *;generalize B i=x at *;let#[pb,eb,ib]:=ik y U;have X:y-1<y:=lG (ZP (ZF _) u1) nL;let#[pa,ea,ia]:=ik (y-1)<|fV X U;have n1:x+(y-x)=y:=jh<|Zo u1;have n2:y+(z-y)=z:=jh<|Zo u2;calc ZG (JU eb<|ZG<|XD (arr:=ZT st) (base:=x) (n:=y-x) (hint:=0) O.kind (o9 u1) (by rw[n1];show Zo U) ib (λt _ _ b e=>ct (jq 06 06) (Zk _) e eb) ik (λu v a b c=>F u v a b<|by rw[<-n1];show c) λk kn f1 f2=>?_);rw[kv eb]at f1 f2;rw[n1]at f2;refine JW (i:=y-x-k) (j:=0) (λg=>ZK<|next (t6 _) (F.join I λt u a b c d=>Z8 (f1 t a ?_)<|I y u (Zk _) c d) λ_ _=>rfl) λg=>?_
 .have:=yL g;lia
 have ku:x+k<y:=by have:=Nat.lt_of_sub_ne_zero g;show ir this
 have er:x+k+(y-x-k)=y:=by rw[Nat.sub_sub];show jh<|Zo ku
 rw[er];calc ZG (JU ea<|ZG<|XD (arr:=ZT st) (base:=y) (n:=z-y) (hint:=z-y-1) O.kind (lG (o9 u2) nL) (by rw[n2];show u4) ia (λt _ a _ e=>ct X a ea e) ik (λu v a b c=>I u v a b<|by rw[<-n2];show c) λJ kn2 g1 g2=>?_);rw[kv ea]at g1 g2;rw[n2]at g2;refine JW (i:=J) (j:=0) (λc=>ZK<|next (t6 _) (F.join I λt u a b c' d=>Z8 (F t (y-1) a (kP b) X)<|g2 u (by rw[c];show c') d) λ_ _=>rfl) λc=>?_
 have v4:y+J<=z:=by rw[<-n2];show jN kn2 y
 have Y:=Zb v4 u4;extract_lets -merge -useContext -underBinder x1 X jp;have H:∀m C,lB (((ZT st).extract (x+k) y).toList++((ZT st).extract y<|y+J).toList) m->cP (qD (kindOf st) (ZT st) (((cS st).setIfInBounds i (x,y-x+(z-y),w)).eraseIdxIfInBounds<|i+1) (gallopOf st)<|lN st) C->wpS (Z4 pr wd) A E s (jp m) Q C:=by
  rintro m _ ⟨mp,mo⟩ ⟨gg,rfl⟩;let#[ms,lp]:=Uy (Zo ku) (Zd _ _) Y mp;let#[so,R]:=UA (Zd x k) ku (Zd _ _) v4 Y F I f1 f2 g1 g2 ms mp mo;have hq:=next (g:=gg) lp so R
  have fn:(lN st).isNone=Zl:=by rw[O.ok];rfl
  rw[<-fn]at hq;show ZG<|pR<|ZG<|nZ<|ZK hq
 have R1:=So.run ik (λt u a b c=>F t u (Zb (Zd _ _) a) b c) (Zo U) (i:=x+k);have R2:=So.run ik (λt u a b c=>I t u a b<|Zr c v4) Y (i:=y);have z1:((ZT st).extract (x+k) y).size=y-(x+k):=by rw[tX,mS<|Zo U]
 have z2:((ZT st).extract y<|y+J).size=J:=by rw[tX,mS Y,yJ]
 have W:0<((ZT st).extract (x+k) y).size:=by rw[z1];show o9 ku
 have q2:0<J:=lD c;have d2:y+J-y=J:=yJ ..;rw[d2]at R2;have p1:∀t,t<((ZT st).extract (x+k) y).size->K ((ZT st).extract y<|y+J) 0<=K ((ZT st).extract (x+k) y) t:=λt S=>by rw[z1]at S;rw[R1.2 t S,R2.2 0 q2];show f2 _ (Zd _ _)<|ir S
 have p2:∀t,t<((ZT st).extract y<|y+J).size->K ((ZT st).extract y<|y+J) t<=K ((ZT st).extract (x+k) y) (((ZT st).extract (x+k) y).size-1):=λt S=>by rw[z2]at S;rw[z1]at W;rw[z1,R1.2 _<|lG W nL,R2.2 t S,show x+k+(y-(x+k)-1)=y-1 by show NQ W];show g1 _ (Zd _ _)<|rL S y
 rw[<-z2]at q2;have fw:∀{a b:Nat}{p q:fP},((ZT st).extract (x+k) y)[a]?=M p->((ZT st).extract y<|y+J)[b]?=M q->Fw p q:=λ{a b p q} e e'=>by
  rw[Fe]at e e';split at e
  .rename_i g;split at e'
   .show ct (Zb (ir g)<|p9 _ _) (Zd _ _) e e'
   .cases e'
  .cases e
 show Qp (λ_=>ZG<|Ut O.kind R1.1 R2.1 W q2 fw p1 p2 H) λ_=>ZG<|Uv O.kind R1.1 R2.1 W q2 fw p1 p2 H
end
def Ch(lo D:Nat)(st st':cj):Prop:=∃ys,st'=setArr st ys/\ys.Perm (ZT st)/\∀t,t<lo\/D<=t->ys[t]?=(ZT st)[t]?
theorem Ch.rfl{lo D:Nat}{st:cj}:Ch lo D st st:=#[ZT st,by cases st;show sJ _,t6 _,λ_ _=>sJ _]
def Ch.set{lo D:Nat}{st j:cj}(h:Ch lo D st j)(p:ys.Perm<|ZT j)(k:∀t,t<lo\/D<=t->ys[t]?=(ZT j)[t]?):Ch lo D st (setArr j ys):=by let#[xs,e,C,B]:=h;subst e;show#[ys,sJ _,p.trans C,λt m=>(k t m).trans<|B t m]
def Ch.bs{lo D:Nat}{st j:cj}(h:Ch lo D st j)(b:Bs a₀ st):Bs a₀ j:=by let#[xs,e,p,_]:=h;subst e;show#[p.trans b.perm,b.kind,b.ok]
def Ch.mono{lo D m:Nat}{st j:cj}(h:Ch lo D st j)(l:D<=m):Ch lo m st j:=by let#[xs,e,p,k]:=h;show#[xs,e,p,λt B=>k t<|B.imp_right<|Zb l]
def Ch.cut[Rk]{lo D c:Nat}{st j:cj}(h:Ch lo D st j)(l:c<=lo\/D<=c)(k:Cut (ZT st) c):Cut (ZT j) c:=by let#[xs,e,p,q]:=h;subst e;show k.keep p<|l.imp (λl t m=>q t<|.inl<|Zr m l) λl t m=>q t<|.inr<|Zb l m
abbrev G:=sE
section
variable{pr:ZW}{wd:bo}{A:bM}{E:aL}{s:Zy}{st:cj}{a₀:Tf}{lo:Nat}
def w5(k:Bs a₀ st)(h0:IntKeys a₀)(D:i<a₀.size)(I:j<a₀.size)(h:Q (M<|decide (G (ZT st) i<G (ZT st) j)) st):wpS (Z4 pr wd) A E s (ltAt' i j) Q st:=by have sz:=k.perm.size_eq;let#[#[p,O],B,n,t,F]:=k.ik h0 i<|Zb D<|Zg sz.symm;let#[#[q,J],C,m,u,H]:=k.ik h0 j<|Zb I<|Zg sz.symm;cases F;cases H;unfold G sE at h;rw[B,C]at h;show wpS_ltAt k.kind B C h
variable[Rk]
def Bm(D:i<xs.size)(f:Cut xs c)(m:j<c)(B:c<=i):G xs i<G xs j↔K xs i<K xs j:=by have C:j<xs.size:=Zo<|Zb (Zc (Zb m B) 1) D;have e:=getElem?_pos xs i D;have k:=getElem?_pos xs j C;unfold G sE K;rw[e,k];show Hw<|f m B k e
def qW(D:i<xs.size)(m:j<xs.size)(h:G xs i<G xs j):K xs i<K xs j:=by have e:=getElem?_pos xs i D;have k:=getElem?_pos xs j m;unfold G sE at h;unfold K;rw[e,k]at h ⊢;show Rk.mo _ _ h
theorem qX(D:i<xs.size)(k:j<xs.size)(h:K xs i<=K xs j):G xs i<=G xs j:=dR.mp λg=>dR.mpr h<|qW k D g
theorem Bo(B:Bs a₀ st)(h0:IntKeys a₀)(D:i<a₀.size)(f:Cut (ZT st) c)(m:j<c)(k:c<=i)(h:Q (M<|decide (K (ZT st) i<K (ZT st) j)) st):wpS (Z4 pr wd) A E s (ltAt' i j) Q st:=w5 B h0 D (Zo<|Zb (Zc (Zb m k) 1) D) (by rw[decide_eq_decide.mpr<|Bm (by rw[B.perm.size_eq];show D) f m k];show h)
def UB(h:lo<=a)(h':a<=b)(D:b<xs.size)(so:So xs lo b)(F:∀i,lo<=i->i<a->K xs i<=K xs b)(H:∀i,a<=i->i<b->K xs b<=K xs i):So (bubble xs b<|b-a) lo (b+1)/\∀t,t<lo\/b+1<=t->(bubble xs b<|b-a)[t]?=xs[t]?:=by
 have C:=Uq (d:=b-a) D<|eX _ _;rw[sX h']at C;calc#[λt u B j m=>?_,λt E=>by rw[getElem?_bubble D _<|eX _ _,if_neg (by(rw[sX h'];show λz=>E.elim (λk=>yO h<|z▸k) λk=>Nat.not_succ_le_self _<|Zb k<|Zb (Zg z) h')),if_neg (by(rw[sX h'];show λz=>E.elim (λk=>jP _<|fV z.1<|Zr k h) λk=>Nat.not_succ_le_self _<|Zb k z.2))]];have m:=Z5 m;rw[C,C];rcases Nat.lt_trichotomy t a with t1|t1|t1
 .rw[if_neg<|Zw t1,if_neg λw=>Nat.lt_asymm t1 w.1];have I:=Zr t1 h';split
  .show F t B t1
  .split
   .show so t (u-1) B 05 00
   .show so t u B j 05
 .rw[if_pos t1];split
  .show ZO _
  .rw[if_pos<|#[(ZX (Zb (Zg t1.symm) j)<|ZV 06),m]];show H _ (mP<|ZX (Zb (Zg t1.symm) j)<|ZV 06) 05
 .rw[if_neg<|dH t1,if_pos #[t1,Zb j m],if_neg<|dH<|Zr t1 j,if_pos #[Zr t1 j,m]];show so _ _ (mP<|Zb (Zc h 1) t1) (rJ j 1) 05
def UC(h0:IntKeys a₀)(hn:lo+n<=a₀.size)(aA:ok<=n)(hB:Bs a₀ st)(hs:So (ZT st) lo<|lo+ok)(cl:∀c,lo+ok<=c->Cut (ZT st) c)(h:∀j,Ch lo (lo+n) st j->So (ZT j) lo (lo+n)->Q Zl j):wpS (Z4 pr wd) A E s (binarySort' lo n ok) Q st:=by
 refine ZG<|k8 (lM (I:=λk c j=>c=(Z,())/\Ch lo (lo+n) st j/\So (ZT j) lo (lo+min k n)/\∀c,lo+k<=c->Cut (ZT j) c) (Q:=λc j=>c=(Z,())/\Ch lo (lo+n) st j/\So (ZT j) lo (lo+n)) ?_ ?_ #[rfl,Ch.rfl,λt u J O h3=>?_,λc hc=>cl c 05]) ?_
 .clear hs h aA cl;rintro k c m _ S ⟨rfl,C,so,cl⟩;rw[mS<|Zo S]at so;have R:=C.bs hB;have X:=Zr (rL S lo) hn;refine ZG (k8 (lM (I:=λx c j=>j=m/\∃l r,c=(Z,l,r)/\l<=r/\r<=k/\r-l<=k-x/\(∀i,lo<=i->i<lo+l->K (ZT m) i<=K (ZT m) (lo+k))/\∀i,lo+r<=i->i<lo+k->K (ZT m) (lo+k)<=K (ZT m) i) (Q:=λc j=>j=m/\∃l,c=(Z,l,l)/\l<=k/\(∀i,lo<=i->i<lo+l->K (ZT m) i<=K (ZT m) (lo+k))/\∀i,lo+l<=i->i<lo+k->K (ZT m) (lo+k)<=K (ZT m) i) ?_ ?_ #[rfl,0,k,rfl,ZF _,Zk _,Zk _,λi a b=>absurd a<|Nat.not_le.mpr b,λi a b=>absurd a<|Nat.not_le.mpr b]) ?_)
  .clear S hn;rintro x c P _ hx ⟨rfl,l,r,rfl,lr,D,d,F,H⟩;refine Qp (λg=>?_) λg=>?_
   .obtain rfl:l=r:=Z7 lr g;show ZK #[rfl,l,rfl,D,F,H]
   have g:l<r:=Nat.not_le.mp g;have m1:l<=(l+r)/2:=05;have U:(l+r)/2<r:=05;have W:=rL (Zr U D) lo;have dx:k-(x+1)=k-x-1:=rfl;refine ZG<|Bo R h0 X (cl (lo+k)<|Zk _) W (Zk _)<|Xc (λB=>?_) λB=>?_
   .show ZK #[rfl,l,(l+r)/2,rfl,m1,Zo<|Zr U D,zP 06 06 06,F,λi J O=>Z8 (Z2 B)<|so _ i (Zd _ _) J O]
   .show ZK #[rfl,(l+r)/2+1,r,rfl,U,D,zO 06 06,λi J O=>Z8 (so i (lo+(l+r)/2) J (Z5 O) W)<|dR.mp B,H]
  .rintro c P ⟨rfl,l,r,rfl,lr,D,d,F,H⟩;obtain rfl:l=r:=05;show#[rfl,l,rfl,D,F,H]
  .rintro c P ⟨rfl,l,rfl,Y,F,H⟩;let#[s1,V]:=UB (Zd lo l) (jN Y lo) (by rw[R.perm.size_eq];show X) so F H;show ZG (pR<|ZK #[rfl,C.set (bubble_perm _ _ _) λt ht=>V t 05,by rw[mS S];show s1,λc hc=>(cl c<|Zo 06).keep (bubble_perm _ _ _)<|.inr λt ht=>V t<|.inr<|Zr 06 06])
 .rintro c m ⟨rfl,C,so,_⟩;rw[show min (max (max ok 1) n) n=n by show Z7 (jr _ _)<|nM.mpr #[(Nat.le_max_right _ _),(Zk _)]]at so;show#[rfl,C,so]
 .by_cases z:ok=0
  .rw[show t=u by lia];show ZO _
  .show hs t u J O 05
 .rintro c m ⟨rfl,C,so⟩;show ZK<|h m C so
def HH{Q:Option (Wz)×Nat->cj->Prop}
  (D:∀x y R,a<=y->y<n->(K (ZT st) (lo+y)<K (ZT st) (lo+y-1)->R (.done (Z,y)) st)->(K (ZT st) (lo+y-1)<=K (ZT st) (lo+y)->R (.yield (Z,y+1)) st)->wpS (Z4 pr wd) A E s (F x (Z,y)) R st)(S:1<=a)(an:a<=n)(so:So (ZT st) lo<|lo+a)
  (h:∀m,a<=m->m<=n->So (ZT st) lo (lo+m)->(m=n\/K (ZT st) (lo+m)<K (ZT st) (lo+m-1))->Q (Z,m) st):wpS (Z4 pr wd) A E s (forIn [a:n] (Z,a) F) Q st:=by
 refine lM (I:=λx c j=>j=st/\c=(Z,x)/\So (ZT st) lo (lo+x)) ?_ ?_ #[rfl,rfl,so]
 .rintro x c J k P ⟨rfl,rfl,so⟩;refine D x x _ k P (λg=>h x k (Zo 06) so<|.inr g) λg=>#[rfl,rfl,λt u B C H=>?_]
  by_cases z:u<lo+x
  .show so t u B C z
  have O:=Z7 (Z5 H)<|iJ.mp z;subst O;rcases yM C with w|w
  .show Z8 (so t (lo+x-1) B (kP w)<|lG (ZP (ZF _) w) nL) g
  .rw[w];show ZO _
 .simp_all
def Ni(xs:Tf)(lo k:Nat):Prop:=∀t u,lo<=t->t<=u->u<lo+k->K xs u<=K xs t
theorem Ni.one:Ni xs lo 1:=λt u a b c=>by rw[show t=u by show Z7 b<|Z5<|Zb c<|Zc a 1];show ZO _
structure Dq(xs:Tf)(lo x q:Nat):Prop where
 qx:q+1<=x
 ni:Ni xs lo<|x-(q+1)
 sp:∀t u,lo<=t->t<lo+x-(q+1)->lo+x-(q+1)<=u->u<lo+x->G xs u<G xs t
 eg:∀t,lo+x-(q+1)<=t->t<lo+x->G xs t=G xs (lo+x-1)
 ek:∀t u,lo+x-(q+1)<=t->t<=u->u<lo+x->K xs t<=K xs u
theorem Dq.all(bE:Dq xs lo x 0)(hx:lo+x<=xs.size):Ni xs lo x:=λt u a b c=>by
 have:=bE.qx;by_cases m:u<lo+x-1
 .show bE.ni t u a b<|yN (k:=1) this lo▸m
 .by_cases j:t<lo+x-1
  .show Z2<|qW (Zr 06 06) (Zb (Zb j<|eX _ _) hx)<|bE.sp t u a j (iJ.mp m) c
  .rw[show t=u by show Z7 b<|Z5<|Zb (Zb c<|vi<|Zk _)<|Zc (ZH j) 1];show ZO _
theorem Dq.turn(bE:Dq xs lo x q)(hx:lo+x<=xs.size):Ni (k9 xs (lo+x-(q+1)) (lo+x)<|(lo+x-(lo+x-(q+1)))/2) lo x:=λt u a b c=>by
 have:=bE.qx;have m:=Bj (i:=lo+x-(q+1)) hx;rw[m,m];by_cases k:u<lo+x-(q+1)
 .rw[if_neg 05,if_neg 05];show bE.ni t u a b<|yN this lo▸k
 .rw[if_pos<|#[(ZH k),c]];by_cases j:t<lo+x-(q+1)
  .rw[if_neg 05];show Z2<|qW 00 (Zb (Zb j<|eX _ _) hx)<|bE.sp t _ a j 00 00
  .rw[if_pos<|#[(ZH j),(Zb (Zc b 1) c)]];show bE.ek _ _ 00 (rK b _) 00
def Dq.new(h:Ni xs lo x)(x1:1<=x)(hx:lo+x<xs.size)(g:G xs (lo+x)<G xs (lo+x-1)):Dq xs lo (x+1) 0:=by calc#[fU _ _,h,λt u a b c d=>?_,λt a b=>by rw[show t=lo+(x+1)-1 by lia],λt u a b c=>by rw[show t=u by lia];show ZO _];rw[show u=lo+x by lia];show ZR g<|qX (Zb (Zc (eX _ _) 1) hx) (fV 06 06)<|h t (lo+x-1) a (kP 06)<|lG (mR 06) 01
def Dq.same(bE:Dq xs lo x q)(hx:lo+x<xs.size)(f:Cut xs<|lo+x)(g:G xs (lo+x)=G xs (lo+x-1)):Dq xs lo (x+1) (q+1):=by
 have:=bE.qx;have e:lo+(x+1)-(q+1+1)=lo+x-(q+1):=Nat.succ_sub_succ ..;calc#[p8 bE.qx,by rw[show x+1-(q+1+1)=x-(q+1)from Nat.succ_sub_succ ..];show bE.ni,λt u a b c d=>?_,λt a b=>?_,λt u a b c=>?_];all_goals rw[e]at *
 .by_cases h:u<lo+x
  .show bE.sp t u a b c h
  .rw[show u=lo+x by lia,g];show bE.sp t _ a b (rK (p8<|ZF _) _)<|Nat.sub_one_lt_of_lt<|Zr (iI _)<|Zb this<|fU _ _
 .change _=G xs (lo+x);by_cases h:t<lo+x
  .rw[g];show bE.eg t a h
  .rw[show t=lo+x by lia]
 .by_cases h:u<lo+x
  .show bE.ek t u a b h
  .rw[show u=lo+x by lia];by_cases j:t<lo+x
   .show dR.mp λw=>by have:=(Bm hx f j<|Zk _).mpr w;rw[g,bE.eg t a j]at this;show Int.lt_irrefl _ this
   .rw[show t=lo+x by lia];show ZO _
theorem UD(bE:Dq xs lo x q)(hx:lo+x<=xs.size)(k):G (k9 xs (lo+x-(q+1)) (lo+x)<|(lo+x-(lo+x-(q+1)))/2) k=G xs k:=K_mirror_equal hx bE.eg k
def w6(k:j<=xs.size)(h:t<i\/j<=t):(k9 xs i j<|(j-i)/2)[t]?=xs[t]?:=by rw[getElem?_mirror_all k,if_neg 05]
def UE(h0:IntKeys a₀)(hn:lo+n<=a₀.size)(h1:1<=n)(hB:Bs a₀ st)(cl:∀c,lo<=c->Cut (ZT st) c)(h:∀m D,Ch lo (lo+m) st D->1<=m->m<=n->So (ZT D) lo (lo+m)->Q (M m) D):wpS (Z4 pr wd) A E s (countRun' lo n) Q st:=by
 have F:∀{y},y<n->lo+y<a₀.size:=λyn=>Zr (rL yn lo) hn
 have lt2:∀{y},y<n->lo+y-1<a₀.size:=λyn=>ZP (eX _ _)<|F yn
 have lt3:∀{y},1<=y->lo+y-1<lo+y:=λy1=>Zg<|j2<|Zb y1<|fU _ _
 refine ZG (HH (lo:=lo) (λx y R ay yn d g=>?_) (Zk 1) h1 (λt u a b c=>by rw[Z7 b<|Zb (Z5 c) a];show ZO _) λm am mn so g=>?_)
 .show ZG<|Bo hB h0 (F yn) (cl (lo+y)<|Zd _ _) (lt3 ay) (Zk _)<|Xc (λl=>ZK<|d l) λl=>ZK<|g<|dR.mp l
 refine JW (i:=m) (j:=n) (λ_=>ZK<|h m st Ch.rfl am mn so) λmn2=>?_
 have lt:=g.resolve_left mn2;have mn':m+1<=n:=ZX mn mn2;have sz:(ZT st).size=a₀.size:=hB.perm.size_eq;have mz:=F mn';have gl:=(Bm (by rw[sz];show mz) (cl (lo+m)<|Zd _ _) (lt3 am)<|Zk _).mpr lt;clear g mn2 lt;extract_lets -merge -useContext -underBinder jp;have H:∀W,Ch lo (lo+(m+1)) st W->Dq (ZT W) lo (m+1) 0->wpS (Z4 pr wd) A E s (jp ()) Q W:=λW C bE=>by
  clear gl so;calc ZG<|qr<|jv #[rfl,?_];refine ZG (k8 (lM (I:=λx c D=>∃q,c=(Z,x,q)/\Ch lo (lo+x) st D/\Dq (ZT D) lo x q)
   (Q:=λc D=>∃x q,c=(Z,x,q)/\1<=x/\x<=n/\Ch lo (lo+x) st D/\Dq (ZT D) lo x q) ?_ ?_ #[0,rfl,C,bE]) ?_)
  .rintro x c B mx V ⟨q,rfl,S,J⟩;have hB2:=S.bs hB;have Y:1<=x:=Zb (fU _ _) mx;have sz2:(ZT B).size=a₀.size:=hB2.perm.size_eq;have U:lo+x<(ZT B).size:=by rw[sz2];show F V
   have C3:=S.mono<|show lo+x<=lo+(x+1)from gi _;refine ZG<|w5 hB2 h0 (F V) (lt2 V)<|Xc (λP=>?_) λP=>?_
   .have tn:=J.turn<|Zo U;have ge:=UD J<|Zo U;have zm:(k9 (ZT B) (lo+x-(q+1)) (lo+x)<|(lo+x-(lo+x-(q+1)))/2).size=(ZT B).size:=mirror_size ..;have qx:=J.qx;have out:∀t,t<lo\/lo+(x+1)<=t->(k9 (ZT B) (lo+x-(q+1)) (lo+x)<|(lo+x-(lo+x-(q+1)))/2)[t]?=(ZT B)[t]?:=λt ht=>w6 (Zo U)<|ht.imp (λk=>Zr k<|mP<|jN qx _) λk=>Zo k
    refine Qp (λ_=>ZG<|vT<|ZK #[0,rfl,C3.set (vU _ _ _ _) out,Dq.new tn Y (by rw[zm];show U)<|by rw[ge,ge];show P]) λz=>ZK #[0,rfl,C3,Dq.new (Dq.all ?_<|Zo U) Y U P]
    have q0:q=0:=sZ.mp<|iJ.mp z;rw[q0]at J;show J
   .refine ZG<|w5 hB2 h0 (lt2 V) (F V)<|Xc (λmore=>?_) λmore=>?_
    .show ZK #[x,q,rfl,Y,Zo V,S,J]
    .show ZK #[q+1,rfl,C3,J.same U (S.cut (.inr<|Zk _)<|cl _<|Zd _ _)<|m7 (dR.mp more)<|dR.mp P]
  .rintro c B ⟨q,rfl,S,J⟩;rw[Nat.max_eq_right mn']at S J ⊢;show#[n,q,rfl,h1,Zk _,S,J]
  rintro c B ⟨x,q,rfl,Y,V,S,J⟩;have U:lo+x<=a₀.size:=Zb (jN V lo) hn;have xz2:lo+x<=(ZT B).size:=by rw[(S.bs hB).perm.size_eq];show U
  dsimp -zeta only;extract_lets -merge -useContext -underBinder r0 s0 n0 q0;dsimp -zeta only[r0,n0,q0,s0];extract_lets -merge -useContext -underBinder jp2;have T:∀O,Ch lo (lo+x) st O->Ni (ZT O) lo x->wpS (Z4 pr wd) A E s (jp2 ()) Q O:=λO C3 ni3=>by
   have z3:lo+x<=(ZT O).size:=by rw[(C3.bs hB).perm.size_eq];show U
   have km:=Bj (xs:=ZT O) (i:=lo) z3;have C4:=C3.set (vU (ZT O) lo (lo+x)<|(lo+x-lo)/2) λt ht=>w6 z3 ht
   refine ZG<|vT<|ZG<|HH (lo:=lo) (a:=x) (n:=n) (λz y R ay yn d g=>ZG<|Bo (C4.bs hB) h0 (F yn) (C4.cut (.inr<|jN ay lo)<|cl (lo+y)<|Zd _ _) (lt3<|Zb Y ay) (Zk _)<|Xc (λl=>ZK<|d l) λl=>ZK<|g<|dR.mp l) Y V (λt u a b c=>?_) λk xk kn so _=>ZK<|h k _ (C4.mono<|jN xk lo) (Zb Y xk) kn so
   rw[km,km,if_pos #[a,ZP b c],if_pos #[Zb a b,c]];show ni3 _ _ 00 (rK b _) 00
  refine Qp (c:=q>0) (λ_=>ZG<|vT<|T _ (S.set (vU _ _ _ _) λt ht=>w6 xz2 (by have:=J.qx;show ht.imp (λh'=>(Nat.lt_sub_of_add_lt<|yH h' this)) λh'=>h'))<|J.turn xz2) λz=>T B S<|Dq.all ?_ xz2
  have q0:q=0:=sZ.mp<|iJ.mp z;rw[q0]at J;show J
 refine Qp (λ_=>?_) λg=>?_
 .refine ZG<|w5 hB h0 (F (y:=0) h1) (lt2 mn')<|Xc (λX=>ZK<|h m st Ch.rfl am mn so) λX=>?_
  have rs:G (ZT st) (lo+m-1)<=G (ZT st) lo:=dR.mp X;have gz:lo+m<=(ZT st).size:=by rw[sz];show Zo mz
  have all:∀k,lo<=k->k<lo+m->G (ZT st) k=G (ZT st) (lo+m-1):=λk a b=>m7 (qX (Zr 06 06) (Zb (Zb (Zc (eX _ _) 1) mz)<|Zg sz.symm)<|so k (lo+m-1) a (mP b)<|lG (mR 06) 01)<|Z8 rs<|qX (Zb (Zb (Zc a 1) b) gz) (Zr 06 06)<|so lo k (Zk _) a b
  have ge:=K_mirror_equal gz all;have km:=Bj (i:=lo) gz;have zm:(k9 (ZT st) lo (lo+m)<|(lo+m-lo)/2).size=(ZT st).size:=mirror_size ..;refine ZG (vT<|H _ (Ch.rfl.set (vU _ _ _ _) λt ht=>w6 gz 05)<|Dq.new (λt u a b c=>?_) am (by change _<(k9 (ZT st) lo (lo+m)<|(lo+m-lo)/2).size;rw[zm,sz];show mz) ?_)
  .change K (k9 (ZT st) lo (lo+m)<|(lo+m-lo)/2) u<=K (k9 (ZT st) lo (lo+m)<|(lo+m-lo)/2) t;rw[km,km,if_pos<|#[(Zb a b),c],if_pos<|#[a,(Zb (Zc b 1) c)]];show so _ _ (by(rw[Nat.sub_sub];show mP<|jN (jg (Zb am<|fU _ _)<|EG (b:=1)<|Zb c<|vi<|Zk _) _)) (rK b _) 00
  .change sE (k9 (ZT st) lo (lo+m)<|(lo+m-lo)/2) (lo+m)<sE (k9 (ZT st) lo (lo+m)<|(lo+m-lo)/2) (lo+m-1);rw[ge,ge];show gl
 .have m1:m=1:=Z7 (ZH g) am;subst m1;show H st Ch.rfl (Dq.new Ni.one (Zk _) (by rw[sz];show mz) gl)
end
section
variable[Rk]{xs:Tf}{p:Wa}{B:Nat->Nat}{lo z:Nat}
def Pd.eq(P:Pd xs p B lo lo)(l:lo<=D)(pm:ys.Perm xs)(e:∀t,t<lo\/D<=t->ys[t]?=xs[t]?):Pd ys p B lo D:=by
 have top:∀k,k<=p.size->B k<=lo:=λk j=>P.bl▸P.mono j (Zk _)
 calc#[P.b0,P.bl,P.up,P.ix,λk j t u a b c=>?_,λk j=>(P.ct k j).keep pm<|.inl λt m=>e t<|.inl<|Zr m<|top k j,l,λc C=>(P.cl c<|Zb l C).keep pm<|.inr λt m=>e t<|.inr<|Zb C m];have:=top (k+1) j;rw[Qv<|e t<|.inl<|Zb (Zb (Zc b 1) c) this,Qv<|e u<|.inl<|Zb c this];show P.so k j t u a b c
def Pd.pw(P:Pd xs p B lo z)(D:∀x,∃w,f x=(x.1,x.2.1,w)):Pd xs (p.modify j f) B lo z:=by
 calc#[P.b0,by rw[Array.size_modify];show P.bl,λk m=>P.up k (by simpa using m),λk m=>?_,λk m=>P.so k (by simpa using m),λk m=>P.ct k (by simpa using m),P.lh,P.cl];let#[w,e]:=P.ix k<|by simpa using m
 rw[Array.getElem?_modify];split
 .rw[e];let#[E,C]:=D (B k,B (k+1)-B k,w);show#[E,by rw[Option.map_some,C]]
 .show#[w,e]
def Pd.push(P:Pd xs p B lo<|lo+n)(so:So xs lo<|lo+n)(n1:1<=n)(w):Pd xs (p.push (lo,n,w)) (λk=>if k<=p.size then B k else lo+n) (lo+n) (lo+n):=by
 have bl:=P.bl;refine#[by rw[if_pos<|ZF _];show P.b0,by rw[zC,if_neg<|by show kQ<|Zk _],λk j=>?_,λk j=>?_,λk j=>?_,λk j=>?_,Zk _,P.cl]
 rotate_left 3
 .split
  .show P.ct k ‹_›
  .show P.cl _<|Zk _
 all_goals rw[zC]at j;by_cases z:k<p.size
 .rw[if_pos (by show Zo 06),if_pos<|by show z];show P.up k z
 .rw[if_pos (by show Z5 06),if_neg 06,show k=p.size by show Z7 (Z5 j)<|ZH z,bl];lia
 .let#[v,e]:=P.ix k z;show#[v,by rw[if_pos (by show Zo 06),if_pos (by show z),Array.getElem?_push_lt z,<-e,getElem?_pos p k z]]
 .rw[if_pos (by show Z5 06),if_neg 06,show k=p.size by show Z7 (Z5 j)<|ZH z,bl,show lo+n-lo=n by lia,Array.getElem?_push_size];show#[w,rfl]
 .rw[if_pos (by show Zo 06),if_pos<|by show z];show P.so k z
 .rw[if_pos (by show Z5 06),if_neg 06,show k=p.size by show Z7 (Z5 j)<|ZH z,bl];show so
end
section
variable[Rk]{pr:ZW}{wd:bo}{A:bM}{E:aL}{s:Zy}{st:cj}{a₀:Tf}
def HI(h0:IntKeys a₀)(hB:Bs a₀ st)(he:cS st=#[])(h2:2<=a₀.size)(c0:∀c,Cut (ZT st) c)(h:∀F,(ZT F).Perm a₀->lN F=Z->So (ZT F) 0 a₀.size->Q () F):wpS (Z4 pr wd) A E s sortRuns' Q st:=by
 have sz:(ZT st).size=a₀.size:=hB.perm.size_eq;have P0:Pd (ZT st) (cS st) (λ_=>0) 0 0:=by rw[he];show#[rfl,rfl,λk hk=>by simp at hk,λk hk=>by simp at hk,λk hk=>by simp at hk,λ_ _=>c0 _,Zk _,λc _=>c0 c]
 calc ZG<|nZ ?_;refine ZG<|k8 (lM (I:=λx c F=>Bs a₀ F/\∃J B,c=(Z,J)/\Pd (ZT F) (cS F) B J J/\J<=a₀.size/\x<=J) (Q:=λc F=>Bs a₀ F/\∃B,c=(Z,a₀.size)/\Pd (ZT F) (cS F) B a₀.size a₀.size) ?_ ?_ #[hB,0,_,rfl,P0,ZF _,ZF _]) ?_
 .rintro x c st1 _ hx ⟨V,J,B,rfl,P,lz,xl⟩;calc k8 (Q:=λr F=>Bs a₀ F/\((∃B,r=.done (Z,a₀.size)/\Pd (ZT F) (cS F) B a₀.size a₀.size)\/∃J B,r=.yield (Z,J)/\Pd (ZT F) (cS F) B J J/\J<=a₀.size/\x+1<=J)) ?_ ?_;case refine_2=>
   rintro _ F ⟨b,⟨B,rfl,P⟩|⟨J,B,rfl,P⟩⟩
   .show#[b,B,rfl,P]
   .show#[b,J,B,rfl,P]
  dsimp -zeta only;rw[sz];change wpS _ _ _ _ (if J ≥ a₀.size then _ else _) _ _;split
  .have e:J=a₀.size:=Z7 lz 06;show ZK #[V,.inl #[B,by rw[e],by rw[e]at P;show P]]
  calc ZG (UE h0 (show J+(a₀.size-J)<=a₀.size by show jg (Zo<|gh 06)<|Zk _) (yK<|gh 06) V P.cl λm O C m1 mn so=>?_);dsimp -zeta only;extract_lets -merge -useContext -underBinder n0 jp;have H:∀k S,Ch J (J+k) st1 S->1<=k->J+k<=a₀.size->So (ZT S) J (J+k)->wpS (Z4 pr wd) A E s (jp () k) (λr F=>Bs a₀ F/\((∃B,r=.done (Z,a₀.size)/\Pd (ZT F) (cS F) B a₀.size a₀.size)\/∃J B,r=.yield (Z,J)/\Pd (ZT F) (cS F) B J J/\J<=a₀.size/\x+1<=J)) S:=λk S C k1 ks so=>by
   have hB3:=C.bs V;let#[ys,rfl,pm,ey]:=C;have P3:=P.eq (Zd _ _) pm ey;calc ZG<|nZ ?_;extract_lets -merge -useContext -underBinder jp2;have T:∀U B4,Bs a₀ U->Pd (ZT U) (cS U) B4 J (J+k)->So (ZT U) J (J+k)->wpS (Z4 pr wd) A E s (jp2 ()) (λr F=>Bs a₀ F/\((∃B,r=.done (Z,a₀.size)/\Pd (ZT F) (cS F) B a₀.size a₀.size)\/∃J B,r=.yield (Z,J)/\Pd (ZT F) (cS F) B J J/\J<=a₀.size/\x+1<=J)) U:=λU B4 X Y W=>
    ZG (pR<|ZK #[#[X.perm,X.kind,X.ok],.inr #[J+k,_,rfl,Y.push W k1 0,ks,pd xl k1]])
   split
   .refine ZG<|k8 (lM (I:=λy c F=>c=(Z,())/\Bs a₀ F/\(∃B,Pd (ZT F) (cS F) B J<|J+k)/\So (ZT F) J (J+k)) ?_ (λ_ _ h=>h) #[rfl,hB3,#[B,P3],so]) ?_
    .rintro y c U _ _ ⟨rfl,X,⟨B4,Y⟩,W⟩;calc ZG<|nZ ?_;by_cases z:(cS U).size>1
     .let#[w,e]:=Y.ix ((cS U).size-2)<|lG (mR 06) 01;dsimp only;rw[if_pos z,e];dsimp only;split
      .show ZK #[rfl,X,#[B4,Y],W]
      .refine ZG<|HG (i:=(cS U).size-2) X h0 Y (Zg<|j2 z) lz λst5 b5 P5 _ e5=>ZK #[rfl,b5,#[_,P5],λt u a b c=>?_]
       rw[e5 t a,e5 u<|Zb a b];show W t u a b c
     .dsimp only;rw[if_neg z];show ZK #[rfl,X,#[B4,Y],W]
    .rintro c U ⟨rfl,X,⟨B4,Y⟩,W⟩;show ZG<|pR<|T _ B4 #[X.perm,X.kind,X.ok] (Y.pw λx=>#[_,rfl]) W
   .show T _ B hB3 P3 so
  split
  .rename_i lt;calc ZG<|qr<|jv #[rfl,?_];have lt':m<minRun' a₀.size a₀.size 0:=lt;refine ZG<|UC h0 (jg (Zo<|gh 06)<|p9 _ _) 00 (C.bs V) so (λc hc=>C.cut (.inr hc)<|P.cl c<|Zb (Zd _ _) hc) λS C3 so3=>?_
   calc H (min (a₀.size-J)<|minRun' a₀.size a₀.size 0) S ?_ (nM.mpr #[(Zb m1 mn),(Zo<|Zb (Zc m1 1) lt')]) (jg (Zo<|gh 06)<|p9 _ _) so3;let#[ys,rfl,p,e]:=C;let#[zs,rfl,p',e']:=C3;show#[zs,rfl,p'.trans p,λt ht=>(e' t ht).trans<|e t<|ht.imp_right λk=>Zb (jN (nM.mpr #[mn,Zo lt']) _) k]
  .show H m O C m1 (jg (Zo<|gh 06) mn) so
 .rintro c st1 ⟨V,J,B,rfl,P,lz,xl⟩;have e:J=a₀.size:=by rw[sz]at xl;show Z7 06 06
  rw[e]at P;show#[V,B,by rw[e],P]
 .rintro c st1 ⟨V,B,rfl,P⟩;refine ZG<|k8 (lM (I:=λy c F=>c=(Z,())/\Bs a₀ F/\∃B,Pd (ZT F) (cS F) B a₀.size a₀.size/\(cS F).size<=a₀.size+1-y) (Q:=λc F=>c=(Z,())/\Bs a₀ F/\∃B,Pd (ZT F) (cS F) B a₀.size a₀.size/\(cS F).size<=1) ?_ ?_ #[rfl,V,B,P,?_]) ?_
  .rintro y c O _ hy ⟨rfl,b2,B2,P2,l2⟩;calc ZG<|nZ ?_;dsimp only;split
   .rename_i z;show ZK #[rfl,b2,B2,P2,z]
   .rename_i z;have z':¬(cS O).size<=1:=z;have fin:∀i,i+1<(cS O).size->∀{R:Bool->cj->Prop},(∀S,Bs a₀ S->(∃B,Pd (ZT S) (cS S) B a₀.size a₀.size)->(cS S).size+1=(cS O).size->R Zl S)->wpS (Z4 pr wd) A E s (mergeAt' i) R O:=λi D R r=>HG b2 h0 P2 D (Zk _) λS b3 P3 s3 _=>r S b3 #[_,P3] s3
    have two:∀(c:Prop)[Decidable c],(if c then(cS O).size-2-1 else(cS O).size-2)+1<(cS O).size:=λc _=>by split<;>(first|show Zb (Zc (eX _ _) 2) (Zg (j2 (gh z')))|show Zg (j2 (gh z'))|lia)
    refine ZG<|fin _ ?_ λS b3 P3 s3=>?_
    .show two _
    .let#[B3,P3]:=P3;show ZK #[rfl,b3,B3,P3,kP<|Zb (Zg s3) l2]
  .rintro c O ⟨rfl,b2,B2,P2,l2⟩;calc#[rfl,b2,B2,P2,?_];rw[show max 0 (ZT st).size=a₀.size by assumption]at l2;lia
  .have:=P.ge<|Zk _;rw[P.bl]at this;show nK 06
  .rintro c O ⟨rfl,b2,B2,P2,l2⟩;refine ZK<|h O b2.perm b2.ok λi j _ ij hj=>?_
   have bl:=P2.bl;have b0:=P2.b0;have one:(cS O).size=1:=by
    rcases vm 0 (cS O).size with z|z
    .show Z7 l2 z
    .rw[show(cS O).size=0 by show rG 06,b0]at bl;show Z7 (Zb z<|Zd _ 1)<|Zo<|Zb (Zb h2<|Zg bl.symm)<|ZF _
   have so:=P2.so 0<|Zg one.symm;rw[one]at bl;show so i j (Zb (Zg b0) 06) ij<|by rw[bl];show hj
end
end L3
namespace L3
open PySem PySem.Spec PyProof.Rows L2
@[reducible] def UG:Rk:=#[kq,λ_ _ h=>h]
def UH(m:s.heap.get? a=M (bc "list" O.toArray n))(B:d8 O ns)(hl:O.length<4096) (h:∀C k,d8 (zD C) k->k.Perm ns->k.Pairwise (· <= ·)->P (.done<|.ret .none) {s with heap:=sortedHeap s.heap a O C}):ZB (Z4 pr wd) A (iw.«list.sort» #[[.ref a],[]]) P E s:=by
 let _:=UG
 by_cases bR:O.length<64
 .show list_sort_tree m B bR h
 match O,bR,hl,m,B,h with
 |[],bR,_,_,_,_=>show(bR 01).elim
 |[_],bR,_,_,_,_=>show(bR 03).elim
 |v1::v2::O,bR,hl,m,B,h=>
  have big:4096<=sizeLine:=01;have la:=Z3 m;rw[list_sort_plain];calc Ze (zx m rfl (Ze<|pP (f:=λ_=>#[]) m rfl ?_ (by simp![fN];show Zb (Zo 06) 06) (ZF _)));obtain⟨c,g⟩:∃c,(s.heap.update a<|dt λ_=>#[]).get? a=M (bc "list" #[] c):=#[_,nc m λ_=>#[]];calc Ze (vV g rfl (Ze<|yU (Ze<|pv (fh ?_)<|ZF _)<|by simp![ji]at hl ⊢;show Zb (Zo 06) 06));have g2:(((s.heap.update a<|dt λ_=>#[]).push<|bc "tuple" (v1::v2::O).toArray 0).push<|bc "list" #[] 0).get? a=M (bc "list" #[] c):=Zj _<|Zj _ g;have D:¬(v1::v2::O).toArray.size<2:=03;simp![if_neg D];rw[keyKind_ints B];calc Ze (Zp<|Ze<|d6 (HI (Q:=λ_ st=>(ZT st).Perm (pairsOf<|v1::v2::O)/\lN st=Z/\SortedTo (ZT st) (pairsOf<|v1::v2::O).size) B.intKeys #[t6 _,rfl,rfl] rfl (by rw[pairsOf_size];simp) (λc t u p q _ _ _ _ e=>dP e) λst p f o=>#[p,f,λi j a b=>o i j (ZF _) a b]) ?_ λ_ _ e=>e);rintro⟨u,st⟩ _ ⟨rfl,p,f,o⟩;let#[k,I,F,H]:=sorted_out B p o;refine Ze<|vV g2 rfl (Ze<|pP g2 rfl ?_ (ZF _) ?_)
  .dsimp only;rw[f];simp;show Zp<|h _ k I F H
  .calc Zb (Zg<|(Array.size_map ..).trans<|p.size_eq.trans<|pairsOf_size _) ?_;show Z5<|Zb (Zb hl big)<|Zd _ 2
@[reducible] def nz (fx:Zu->Int):Rk:=#[λp=>kq p*4096+fx p.2%4096,λp q h=>by change kq p*4096+fx p.2%4096<kq q*4096+fx q.2%4096;lia]
section
variable{kl its:Tu}{ks:To}{fx:Zu->Int}(hk:d8 kl ks)(hx:∀(t:Nat) v,its[t]?=M v->fx v=(t:Int))(hl:its.length<4096)(l4:kl.length=its.length)
include hk hx hl
def VQ(e:(kl.zip its)[i]?=M p):(nz fx).f p=ks.getD i 0*4096+i/\kq p=ks.getD i 0/\i<its.length/\p.2=its.getD i .none/\∃n t,p.1=.int n t:=by
 let#[m,j]:=ET.mp e;have B:=(Zs.mp j).1;have D:=hk.length;have E:=(Zs.mp m).1;let#[t,C]:=hk.get i _ (Zh<|show i<ks.length by show jq 06 06);have k:p.1=.int (ks.getD i 0) t:=by rw[Z0,Zh<|show i<ks.length by show jq 06 06];show gJ<|m.symm.trans C
 have kp:kq p=ks.getD i 0:=by unfold kq;rw[k];rfl
 calc#[?_,kp,B,by rw[Z0,j];rfl,_,_,k];change kq p*4096+fx p.2%4096=_;rw[kp,hx i _ j];lia
include l4
def UI(p:arr.Perm<|kl.toArray.zip its.toArray)(o:@So (nz fx) arr 0 (kl.toArray.zip its.toArray).size):arr.map (·.2)=bV ((cK ks its.length).map λi=>its.getD i eI):=by
 have S:(kl.toArray.zip its.toArray).toList=kl.zip its:=by rw[vX]
 have H:(kl.zip its).length=its.length:=by rw[List.length_zip];show Z7 (jr _ _)<|nM.mpr #[(Zg l4.symm),(Zk _)]
 have pl:arr.toList.Perm (kl.zip its):=S▸vW.mp p;have sz:arr.size=its.length:=by rw[p.size_eq,<-gH,S,H]
 have at_:∀i,i<its.length->(kl.zip its)[i]?=M ((kl.zip its).getD i (.none,.none)):=λi h=>by rw[Z0,Zh<|Zb h<|Zg H.symm];rfl
 have F:arr.toList=(cK ks its.length).map λi=>(kl.zip its).getD i (.none,.none):=by
  have P:((cK ks its.length).map λi=>(kl.zip its).getD i (.none,.none)).Perm (kl.zip its):=by
   calc((XI ks its.length).map _).trans<|.of_eq ?_;refine kZ (by rw[Zn,mY,H]) λi R I=>?_
   rw[ZN,qm,Z0,Zh I];rfl
  refine Ft (le:=λp q=>(nz fx).f p<=(nz fx).f q) (λa b ha U R I=>?_) ?_ ?_<|pl.trans P.symm
  .let#[i,O]:=sg.mp<|pl.mem_iff.mp ha;let#[j,Q]:=sg.mp<|P.mem_iff.mp U;have C:=VQ hk hx hl O;have m:=VQ hk hx hl Q;obtain rfl:i=j:=NR (fV C.2.2.1 hl) (fV m.2.2.1 hl)<|by rw[<-C.1,<-m.1];show m7 R I
   show gJ<|O.symm.trans Q
  .refine vE.mpr λi j D J W=>?_
   have E:i<arr.size:=by simpa using D
   have k:j<arr.size:=by simpa using J
   have:=o i j (ZF _) (Zo W)<|by rw[<-p.size_eq];show k
   rw[@K_eq (nz fx) arr i E,@K_eq (nz fx) arr j k]at this;simpa using this
  .calc tN.mpr<|(Hv ks its.length).imp_of_mem λ{i j} D J h=>?_;have B:=VP ks i D;have V:=VP ks j J;have C:=VQ hk hx hl<|at_ i B;have m:=VQ hk hx hl<|at_ j V;rw[C.1,m.1];show FD (fV B hl) h
 apply zB.mp;rw[Array.toList_map,F,d0];refine si λi D=>?_
 have B:=VP ks i D;show(VQ hk hx hl<|at_ i B).2.2.2.1
def UJ(h2:2<=its.length)(q:∀st,(ZT st).map (·.2)=bV ((cK ks its.length).map λi=>its.getD i eI)->lN st=Z->Q ((),st) s):
  ZB (Z4 pr wd) A ((sortRuns').run<|qD pS (kl.toArray.zip its.toArray) #[] 7 Z) Q E s:=by
 have k:(kl.toArray.zip its.toArray).toList=kl.zip its:=by rw[vX]
 have ga:∀{t:Nat}{p:fP},(kl.toArray.zip its.toArray)[t]?=M p->(kl.zip its)[t]?=M p:=λe=>by rw[<-k,lO];show e
 refine d6 (@HI (nz fx) pr wd A E s (qD pS (kl.toArray.zip its.toArray) #[] 7 Z) (kl.toArray.zip its.toArray) (λ_ st=>(ZT st).Perm (kl.toArray.zip its.toArray)/\lN st=Z/\@So (nz fx) (ZT st) 0 (kl.toArray.zip its.toArray).size) (λp hp=>?_) #[t6 _,rfl,rfl] rfl (by simp_all) (λc t u p q C D e m g=>?_) λst p f o=>#[p,f,o]) ?_ λ_ _ e=>e
 .rw[k]at hp;let#[i,B]:=sg.mp hp;show(VQ hk hx hl B).2.2.2.2
 .have ap:=VQ hk hx hl<|ga e;have j:=VQ hk hx hl<|ga m;change(nz fx).f p<=(nz fx).f q;rw[ap.1,j.1];show FD (fV ap.2.2.1 06)<|.inr #[ap.2.1.symm.trans<|g.trans j.2.1,Zo<|Zr C D]
 .rintro⟨⟨⟩,st⟩ _ ⟨rfl,p,f,o⟩;show q st (UI hk hx hl l4 p o) f
end
end L3
namespace L3
open PySem PySem.Spec PyProof.Rows L2 PySem.W
def UK(I:Inv X V U H s)(k:∀b u,b≠it->s.heap.get? b=M u->h'.get? b=M u)(F:aH X V H it)(new:JR X.prog X.w (upd H it o) h' it o):
  Inv X V U (upd H it o) {s with heap:=h',toks:=t'}:=by
 let#[hn,D,_,P,R,J]:=F;have j:∀b u,H b=M u->b≠it:=λb u e z=>by rw[z,hn]at e;cases e
 refine I.step (ch:=[it]) (λb C=>?_) (λb o _ _ B e _=>k b o (λz=>B<|by simp[z]) e) (λb o _ _ B e _=>#[o.slots,k b o (λz=>B<|by simp[z]) e]) (λb o B _ n=>by rw[Jw λz=>B<|by simp[z]];show n)
  (λb o B e=>#[o,k b o (λz=>B<|by simp[z]) e]) (λb _ e=>by rw[Jw<|j b _ e];show e) (λb _ _ e=>by rw[Jw<|j b _ e];show e) (λb ps e=>#[#[],by rw[Jw<|j b _ e,e];simp]) (λm hm=>?_) (λb u e=>?_) I.bare
 .have e:b=it:=by simpa using C
  subst e;show#[P,D,R,J]
 .let#[o,E,O,Q,r]:=hm;show#[o,E,O,k _ o (ZV D) Q,r]
 .by_cases C:b=it
  .subst C;rw[J4]at e;cases e;show new
  .rw[Jw C]at e;refine(I.aA b u e).fm (λc v B q=>k c v ?_ q) (λc q=>by rw[Jw<|j c _ q];show q) λc _ q=>by rw[Jw<|j c _ q];show q
   rcases B with z|z
   .rw[z];show C
   .show j c _ z
def QK(mk:IV->IH->Res IV):Tw->To->IH->Res (To)|[],ks,h=>.ok ks h|y::r,ks,h=>(mk y h).nx.bind λk h'=>match k with|.int n=>QK mk r (ks++[n]) h'|_=>.stuck
def YI(ys:Tw)(ks:To)(h:IH):Res IV:=.ok (.ref h.length)<|h++[.lst ((cK ks ys.length).map λi=>ys.getD i .aw).reverse]
def XT(ys:Tw)(ks:To)(h:IH):Res IV:=YI ys.reverse ks.reverse h
section
variable{J:aN}{X:Cx}
section
variable{fx:Zu->Int}{A:bM}{Q E:aL}{P:PySem.Fin->Zy->Prop}{V:bf}{bF:aE}{U:L2.St}{G:Hp->Prop}{fq bE kS:ZD}{mk:IV->IH->Res IV}{ys:Tw}{ws:Uc}{its:Tu}{ks:To}{e e1:Nat}{H:Hp}{Y:Tv}{h:IH}{s:Zy}
def HJ{kA:Ti}{st:cj}(N:aG J X V Y bF h U H s)(B:aH X V H bE)(fK:aH X V H kS)(R:bE≠kS)(gD:s.heap.get? bE=M (bc "list" #[] e1))(gK:s.heap.get? kS=M (bc "list" kA e))(hz:kA.size<4096) (W:Vals ws its)(r3:aC X.K Y H ys ws)(m:ys.length<4096)(k:(ZT st).map (·.2)=bV ((cK ks ys.length).map λi=>its.getD i eI))(hf:lN st=Z)(hP:∀s',Q (.ref bE) s'->P (.done<|.ret .none) s')(K:Kont J X RU V Y bF U H (YI ys ks h) Q E):ZB (Z4 X.prog X.w) A (ksk_tail bE Zl e1 (.ref kS) st) P E s:=by
 have lo:=Uo ks ys.length;have lt:=VP ks (n:=ys.length);have l1:=r3.length;have l2:=W.length;have v:=(Hs W (cK ks ys.length) λi D=>by have:=lt i D;show Zb this<|Zg l1.symm).reverse;have F:((cK ks ys.length).map λi=>its.getD i eI).reverse.length=ys.length:=by rw[nR,Zn,lo]
 unfold ksk_tail;dsimp only;rw[k,if_pos rfl,List.reverse_toArray];generalize ((cK ks ys.length).map λi=>its.getD i eI).reverse=C at v F;calc Ze (pP gK rfl ?_ (by rw[ju];show Z5<|Zb hz<|Zd _ 16773121) (ZF _));have O:∀b u,b≠kS->s.heap.get? b=M u->(s.heap.update kS<|dt λ_=>(#[]:Ti)).get? b=M u:=λb u I q=>(Z9 _ _<|ZV I).trans q
 generalize s.heap.update kS (dt λ_=>(#[]:Ti))=S at O;have j:=O bE _ R gD;have N1:=N.turned (h':=S) (t':=s.toks) fK O;calc Ze<|nO ?_;calc Ze<|vV j rfl ?_;calc Ze (pP j rfl ?_ (ZF _) (by rw[fN,ju];show Z5<|Zb (Zb (Zc (Zg F) 1) m)<|Zd _ 16773122));rw[hf];simp![bne_self_eq_false,sy,if_false];calc Zp<|hP _ ?_;have hc:=nc j λ_=>C.toArray
 have I':=UK N1.inv (o:=.lst ((cK ks ys.length).map λi=>ws.getD i bC.aw).reverse) (h':=S.update bE<|dt λ_=>C.toArray) (t':=s.toks) (λb u I q=>(Z9 _ _<|ZV I).trans q) B #[by rw[v.length,ju];show Z5<|Zb (Zb (Zc (Zg F) 1) m)<|Zd _ 16773121,C,_,v,hc];show fy N1 K bE B.1 #[_,J4,aC.new B.1 (Ht r3 _ lt).rev] _ _ I' rfl
def UL(O:Tu)(ks:To)(h:O.length<2):(cK ks O.length).map (λi=>O.getD i eI)=O:=by
 rcases O with _|⟨v,_|⟨w,r⟩⟩
 .rw[ze,Hu];rfl
 .rw[show cK ks [v].length=[0]from List.perm_singleton.mp<|XI ks 1];rfl
 .show absurd h 03
def UM{j:Ti}(N:aG J X V Y bF h U H s)(fD:aH X V H bE)(fK:aH X V H kS)(I:bE≠kS)(gD:s.heap.get? bE=M (bc "list" #[] e1))(gK:s.heap.get? kS=M (bc "list" j e))(hk:d8 j.toList ks)(R:ks.length=ys.length)
  (hx:∀(t:Nat) v,its.reverse[t]?=M v->fx v=(t:Int))(rv:Vals ws its)(r3:aC X.K Y H ys ws)(h64:ys.length<4096)(hP:∀s',Q (.ref bE) s'->P (.done<|.ret .none) s')(K:Kont J X RU V Y bF U H (XT ys ks h) Q E):
  ZB (Z4 X.prog X.w) A (ksk_end bE Zl its.toArray e1 (.ref kS) j) P E s:=by
 have l1:=r3.length;have l2:=rv.length;have l3:=hk.length;have m:j.size=its.length:=by rw[<-gH];show Z7 (Zb (Zb (Zb (Zg l3)<|Zg R)<|Zg l1.symm)<|Zg l2)<|Zb (Zb (Zb (Zg l2.symm)<|Zg l1)<|Zg R.symm)<|Zg l3.symm
 unfold ksk_end;dsimp only;rw[if_pos rfl];calc Ze<|jv ?_;have ez:(j.zip its.toArray).reverse=j.toList.reverse.toArray.zip its.reverse.toArray:=by apply zB.mp;rw[sG,vX,vX];show List.reverse_zipWith<|by simpa using m
 rw[if_pos rfl,ez,fN];have D:=rv.reverse;have B:=r3.rev;have W:=hk.reverse;have K:Kont J X RU V Y bF U H (YI ys.reverse ks.reverse h) Q E:=K;have F:ys.reverse.length=its.length:=by rw[nR];show Z7 (Zb (Zg l1.symm)<|Zg l2)<|Zb (Zg l2.symm)<|Zg l1
 have S:ks.reverse.length=its.length:=by rw[nR];show Z7 (Zb (Zb (Zg R)<|Zg l1.symm)<|Zg l2)<|Zb (Zb (Zg l2.symm)<|Zg l1)<|Zg R.symm
 have l4:j.toList.reverse.length=its.length:=by rw[nR,gH,m]
 have O:its.length<4096:=Zb (Zb (Zc (Zg l2.symm) 1)<|Zc (Zg l1) 1) h64;rw[<-nR (as:=its)]at m F S l4 O ⊢;by_cases k:its.reverse.length<2
 .rw[if_pos k,if_pos k];calc Ze<|Zp ?_;rw[StateT.run_pure];calc Ze<|Zp ?_;dsimp only;calc HJ N fD fK I gD gK (Zb (Zb (Zc (Zg m) 1) k)<|Zd _ 4094) D B (Zb (Zb (Zc (Zg F) 1) k)<|Zd _ 4094) ?_ rfl hP K;generalize its.reverse=its at *;have e1:(ZT<|qD general' (j.toList.reverse.toArray.zip its.toArray) #[] 7 Z).map (·.2)=its.toArray:=by apply zB.mp;change((j.toList.reverse.toArray.zip its.toArray).map (·.2)).toList=_;rw[Array.toList_map,ksk_zip];show List.map_snd_zip<|by rw[List.toList_toArray];show Zg l4.symm
  rw[e1,F];show congrArg bV (UL its _<|k).symm
 .rw[if_neg k,if_neg k,ksk_kind hk<|Zb (ZH k)<|Zg m.symm];refine Ze<|Zp<|Ze<|UJ W hx (O) l4 (ZH k) λst C hf=>?_
  dsimp only;show HJ N fD fK I gD gK (Zb (Zc (Zg m) 1) O) D B (Zb (Zc (Zg F) 1) O) (by rw[F];show C) hf hP K
def UN(ko:Yp J X A bF U V G (.ref fq) mk)(hG:∀H H',Ext H H'->G H->G H')(N:aG J X V Y bF h U H s)(g:G H)(fD:aH X V H bE)(fK:aH X V H kS)(S:bE≠kS)(gD:s.heap.get? bE=M (bc "list" #[] e1))(gK:s.heap.get? kS=M (bc "list" #[] 0)) (hx:∀(t:Nat) v,its.reverse[t]?=M v->fx v=(t:Int))(rv:Vals ws its)(r3:aC X.K Y H ys ws)(R:ys.length<4096)(hP:∀s',Q (.ref bE) s'->P (.done<|.ret .none) s')(K:Kont J X RU V Y bF U H ((QK mk ys [] h).bind<|XT ys) Q E):ZB (Z4 X.prog X.w) A (ksk_rest bE (.ref fq) Zl its.toArray e1<|.ref kS) P E s:=by
 have l1:=r3.length;have l2:=rv.length;unfold ksk_rest;calc Ze<|jv ?_;rw[List.forIn_toArray];calc Ze (ksk_fold (λj s'=>∃H' Y' h' F D e,aG J X V Y' bF h' U H' s'/\G H'/\bj Y H Y' H'/\s'.heap.get? bE=M (bc "list" #[] e1)/\s'.heap.get? kS=M (bc "list" D e)/\d8 D.toList F/\F.length=j/\H' bE=Z/\H' kS=Z/\Kont J X RU V Y' bF U H' ((QK mk (ys.drop j) F h').bind<|XT ys) Q E) its 0 s #[H,Y,h,[],#[],0,N,g,.refl,gD,gK,.nil,rfl,fD.1,fK.1,K] ?step ?done);case step=>
  rintro j x s' hx ⟨H',Y',h',F,D,e,N',g',n',I,C,hk,m,O,W,B⟩;simp![mU]at m B ⊢;have fD':=aH.at fD O;have fK':=aH.at fK W;let#[xv,ex,rx]:=Bb rv hx;let#[yv,eyv,qy]:=(r3.mono n').get' ex;have hj:j<ys.length:=(Zs.mp eyv).1;have ed:ys.drop j=yv::ys.drop (j+1):=by rw[tG hj,(Zs.mp eyv).2]
  rw[ed]at B;have B:Kont J X RU V Y' bF U H' (((mk yv h').nx.bind λk h''=>match k with|.int n=>QK mk (ys.drop<|j+1) (F++[n]) h''|_=>.stuck).bind<|XT ys) Q E:=B;rw[Res.dq]at B;have hz:D.size=j:=by rw[<-gH,hk.length,m]
  have N2:=(N'.hV C fK' λv z=>by cases z).hV I (aH.more (p:=(kS,bc "list" D e)) fD'<|ZV S) λv z=>by cases z
  rw[iz]at N2;refine Ze<|rR<|oB<|ko _ _ _ _ _ yv x _ N2 g' #[xv,rx,qy]<|Bc B λk h3 u s3 H3 W3 N3 n3 ru K3=>?_
  have pK:=N3.inv.pin (kS,bc "list" D e)<|Zt _<|Zt _ 03;have pD:=N3.inv.pin (bE,bc "list" #[] e1)<|Zt _<|Zt _ 03;have N4:=N3.pins;cases k with
  |int n=>
   let#[v,rv',ev]:=ru;have ev:v=.int n:=ev;subst ev;let#[t,rfl]:=rv';try dsimp only
   calc Ze (pP pK.1 rfl ?_ (by rw[ju];show EG (b:=2)<|Zb (Zb (Zc (Zb (Zc (Zg hz) 1) hj) 1) R)<|Zd _ 16773122) (Zb (Zg<|zC ..)<|by rw[ju];show Z5<|Zb (Zb (Zc (Zb (Zc (Zg hz) 1) hj) 1) R)<|Zd _ 16773122));obtain⟨c2,hc2⟩:∃c2,(s3.heap.update kS (dt (·.push (.int n t)))).get? kS=M (bc "list" (D.push<|.int n t) c2):=#[_,nc pK.1 (·.push (.int n t))];have s1:∀b u,b≠kS->s3.heap.get? b=M u->(s3.heap.update kS (dt (·.push (.int n t)))).get? b=M u:=λb u nb q=>(Z9 _ _<|ZV nb).trans q
   have N5:=N4.turned (h':=s3.heap.update kS (dt (·.push (.int n t)))) (t':=s3.toks) (aH.at fK pK.2.1) s1;calc Zp #[rfl,H3,W3,h3,F++[n],D.push<|.int n t,c2,N5,hG _ _ n3.ext g',n'.trans n3,s1 bE _ S pD.1,hc2,by rw[zA];show ksk_snoc hk,by simp[m],pD.2.1,pK.2.1,K3]
  |_=>show Zf K3
 case done=>
  rintro s' ⟨H',Y',h',F,D,e,N',g',n',I,C,hk,m,O,W,B⟩;rw[mU]at m B;rw[List.drop_of_length_le<|Zb (Zg l1.symm)<|Zg l2]at B;try dsimp only
  calc Ze<|zx C rfl ?_;show UM N' (aH.at fD O) (aH.at fK W) S I C hk (Z7 (Zb (Zb (Zg m)<|Zg l2.symm)<|Zg l1)<|Zb (Zb (Zg l1.symm)<|Zg l2)<|Zg m.symm) hx rv (r3.mono n') R hP B
def UO{kw:Wm}{B:bM}{h2:bp}{tk:Nat}(hkw:∀a,iw.«list.sort» #[[.ref a],kw]=ksk_tree a (.ref fq) Zl)(hak:∀a,kY "list.sort" #[[a],kw])(ko:Yp J X B.in1 bF U V G (.ref fq) mk)(hG:∀H H',Ext H H'->G H->G H')(N:aG J X V Y bF h U H s)(g:G H) (keep:∀b o,s.heap.get? b=M o->h2.get? b=M o)(C:s.heap.objs.size<=h2.objs.size)(hx:∀(t:Nat) v,its.reverse[t]?=M v->fx v=(t:Int))(R:Vals ws its)(r3:aC X.K Y H ys ws)(D:ys.length<4096)(hP:∀bE s',Q (.ref bE) s'->P (.done<|.ret<|.ref bE) s') (K:Kont J X RU V Y bF U H ((QK mk ys [] h).bind<|XT ys) Q E):ZB (Z4 X.prog X.w) B (do let l<-newList its;let _<-lH [l] (call (.builtin "list.sort") [l] kw);ret l) P E {s with heap:=h2,toks:=tk}:=by
 have l1:=r3.length;have l2:=R.length;calc Ze (pv ?_<|by rw[ju];show Z5<|Zb (Zb (Zc (Zb (Zg l2.symm)<|Zg l1) 1) D)<|Zd _ 16773121);have j:(h2.push<|bc "list" its.toArray 0).get? h2.objs.size=M (bc "list" its.toArray 0):=Zx _ rfl;have k:∀b o,s.heap.get? b=M o->(h2.push<|bc "list" its.toArray 0).get? b=M o:=λb o q=>Zj _<|keep b o q
 have I:(h2.push<|bc "list" its.toArray 0).objs.size=h2.objs.size+1:=pQ ..;change ZB _ _ _ _ _ {s with heap:=h2.push<|bc "list" its.toArray 0,toks:=tk};generalize h2.push (bc "list" its.toArray 0)=F at j k I;calc Ze<|fh<|wpAny_call_entry_kw slot_list_sort #[_,j,rfl] entry_list_sort ?body<|hak _;case body=>
  change ZB (Z4 X.prog X.w) B.in1 (iw.«list.sort» #[[.ref h2.objs.size],kw]) _ _ _;rw[hkw];unfold ksk_tree;calc Ze<|zx j rfl ?_;calc Ze (pP j rfl ?_ (by rw[fN,ju];show Z5<|Zb (Zb (Zc (Zb (Zg l2.symm)<|Zg l1) 1) D)<|Zd _ 16773121) (ZF _));obtain⟨ep,O⟩:∃ep,(F.update h2.objs.size<|dt λ_=>(#[]:Ti)).get? h2.objs.size=M (bc "list" #[] ep):=#[_,nc j λ_=>#[]];calc Ze<|vV O rfl ?_;calc Ze (yU ?_ (by change its.length<=_;rw[ju];show Z5<|Zb (Zb (Zc (Zb (Zg l2.symm)<|Zg l1) 1) D)<|Zd _ 16773121));calc Ze<|pv ?_<|ZF _;calc fh ?_;have sz5:((F.update h2.objs.size<|dt λ_=>(#[]:Ti)).push<|bc "tuple" its.toArray 0).objs.size=h2.objs.size+2:=by rw[pQ,Heap.size_update,I]
  obtain⟨S,m⟩:∃S,S=((F.update h2.objs.size<|dt λ_=>(#[]:Ti)).push<|bc "tuple" its.toArray 0).objs.size:=#[_,rfl];have gK:(((F.update h2.objs.size<|dt λ_=>(#[]:Ti)).push<|bc "tuple" its.toArray 0).push<|bc "list" #[] 0).get? S=M (bc "list" #[] 0):=by rw[m];show Zx _ rfl
  have gD:(((F.update h2.objs.size<|dt λ_=>(#[]:Ti)).push<|bc "tuple" its.toArray 0).push<|bc "list" #[] 0).get? h2.objs.size=M (bc "list" #[] ep):=Zj _<|Zj _ O;have W:∀b o,s.heap.get? b=M o->(((F.update h2.objs.size<|dt λ_=>(#[]:Ti)).push<|bc "tuple" its.toArray 0).push<|bc "list" #[] 0).get? b=M o:=λb o q=>Zj _<|Zj _<|(Z9 _ _<|dH<|Zr (Z3 q) C).trans<|k b o q
  rw[<-m];rw[sz5]at m;have fD:aH X V H h2.objs.size:=N.inv.dz C<|N.inv.aA.fresh C;have le:s.heap.objs.size<=S:=by rw[m];show Zb C<|Zd _ _
  have fK:aH X V H S:=N.inv.dz le<|N.inv.aA.fresh le;show UN ko hG (N.jZ (t':=tk) W) g fD fK (by rw[m];show Zw<|Nat.lt_add_of_pos_right 01) gD gK hx R r3 D (λs' q=>#[_,rfl,Zp<|hP _ _ q]) K
end
end
end L3
namespace L3
open PySem PySem.Spec PyProof.Rows L2
abbrev eT(xs:Array Nat):Prop:=xs.toList.Pairwise (· < ·)
section
variable{xs:Array Nat}{j:Nat}
def eT.get(r:eT xs)(h:i<k)(hk:k<xs.size):xs.getD i 0<xs.getD k 0:=by have:=vE.mp r i k (by simp;show fV 06 06) (by simpa using hk) h;simpa[hk,fV h hk]using this
def eT.le(r:eT xs)(h:i<=k)(hk:k<xs.size):xs.getD i 0<=xs.getD k 0:=by
 rcases Nat.eq_or_lt_of_le h with e|e
 .lia
 .show Zo<|r.get e hk
theorem Bp(r:eT xs):∀(f lo D:Nat),lo<=D->D<=xs.size->D-lo<=f->(∀i,i<lo->xs.getD i 0<j)->(∀i,D<=i->i<xs.size->j<=xs.getD i 0)->∀x,SetTable.below.go xs j f lo D=x->x<=xs.size/\(∀i,i<x->xs.getD i 0<j)/\∀i,x<=i->i<xs.size->j<=xs.getD i 0
 |0,lo,D,h1,h2,h3,a,b,x,e=>by obtain rfl:lo=D:=05;subst e;show#[h2,a,b]
 |f+1,lo,D,h1,h2,h3,a,b,x,e=>by
  unfold SetTable.below.go at e;split at e
  .rename_i m;have hm:(lo+D)/2<xs.size:=05;have gd:xs.getD ((lo+D)/2) j=xs.getD ((lo+D)/2) 0:=by simp[hm]
   dsimp only at e;rw[gd]at e;by_cases c:xs.getD ((lo+D)/2) 0<j
   .rw[if_pos c]at e;show Bp r f _ _ 05 h2 (zO (zQ m).1 h3) (λi k=>ZP (r.le (show i<=(lo+D)/2 by show Z5 06) hm) c) b x e
   .rw[if_neg c]at e;show Bp r f _ _ 05 (Zo 06) (zP (zQ m).1 (zQ m).2 h3) a (λi k B=>Zb (ZH c)<|r.le k B) x e
  .obtain rfl:lo=D:=Z7 h1<|ZH 06;subst e;show#[h2,a,b]
theorem Bq(r:eT xs)(j):jz xs j<=xs.size/\(∀i,i<jz xs j->xs.getD i 0<j)/\∀i,jz xs j<=i->i<xs.size->j<=xs.getD i 0:=
 Bp r xs.size 0 xs.size (ZF _) (Zk _) (Zk _) (λi h=>absurd 06<|mT _) (λi k m=>absurd 06<|yO 06) _ rfl
def YH(xs:Array Nat):Nat->Nat|0=>0|i+1=>xs.getD i 0+1
theorem HK(r:eT xs):∀{i:Nat},i<=xs.size->jz xs (YH xs i)=i
 |0,_=>by
  let#[m,j,k]:=Bq r 0;rcases Nat.eq_zero_or_pos (jz xs 0)with e|e
  .show e
  .have:=j 0 e;show absurd 06<|mT _
 |i+1,D=>by
  let#[m,j,k]:=Bq r<|xs.getD i 0+1;change jz xs (xs.getD i 0+1)=i+1;generalize jz xs (xs.getD i 0+1)=x at m j k;rcases Nat.lt_trichotomy x (i+1)with e|e|e
  .have:=k i (Z5 06) 05;show absurd 06<|jP _
  .show e
  .have a:=j (i+1) e;have b:=r.get (show i<i+1 by show ZY _) (show i+1<xs.size by show Zr 06 06);show absurd 06<|kQ 06
def eT.insert(r:eT xs)(F:xs[jz xs j]?≠M j):eT (SetTable.insertAt xs (jz xs j) j):=by
 let#[J,E,B]:=Bq r j;generalize jz xs j=p at J E B F;unfold eT;rw[SetTable.toList_insertAt,pJ];have C:∀a∈xs.toList.take p,a<j:=λa ha=>by
  let#[i,D,rfl]:=gG.mp ha;have k:i<p/\i<xs.size:=by
   have:i<min p xs.size:=by simpa using D
   show#[(Zb this<|p9 _ _),(Zb this<|jr _ _)]
  have:=E i k.1;simpa[k.2]using this
 have D:∀a∈xs.toList.drop p,j<a:=λa ha=>by
  let#[i,D,rfl]:=gG.mp ha;have k:p+i<xs.size:=by
   have:i<xs.size-p:=by simpa using D
   show ir this
  have ge:=B (p+i) (Zd _ _) k;have O:p<xs.size:=ZP (Zd _ _) 06;have np:j≠xs.getD p 0:=λe=>F<|by simp_all
  have H:=B p (Zk _) O;have I:=r.le (show p<=p+i by show Zd _ _) k;have:j<xs.getD (p+i) 0:=Zb (ZX H np) I;simpa[k]using this
 show#[Fz (List.take_sublist _ _) r,nU.mpr #[D,Fz (List.drop_sublist _ _) r],λa ha b m=>by
  rcases ZC.mp m with rfl|m
  .show C a ha
  .show fV (C a ha)<|D b m]
end
structure Tb(led:Bool)(t:SetTable):Prop where
 r:eT t.place
 d:t.dummies=#[]
 l:t.led=led
section
variable{t:SetTable}{led:Bool}
theorem Tb.standIn(b:Tb led t)(n):Tb led (t.standIn n):=#[by change(Array.range n).toList.Pairwise _;rw[Array.toList_range];show E0,rfl,b.l]
def Tb.orStandIn(b:Tb led t)(n):Tb led (t.orStandIn n):=by
 unfold SetTable.orStandIn;split
 .show b
 .show b.standIn n
def HL(j):zE #[] j=Zm:=by unfold zE;simp
theorem HM(d:t.dummies=#[]):∀(n:Nat)(p:SetTable.Probe),p.dummy=Z->∀j dm,SetTable.probe.go t f h n p=M (.empty j dm)->dm=Z/\t.place[jz t.place j]?≠M j
 |0,p,_,j,dm,e=>by cases e
 |n+1,p,hp,j,dm,e=>by
  have k:(t.advance p).dummy=Z:=by
   unfold SetTable.advance;split
   .show hp
   .show hp
  unfold SetTable.probe.go at e;unfold SetTable.slot at e;dsimp only at e;by_cases c:(t.place[jz t.place p.j]?==M p.j)=Zl
  .rw[if_pos c]at e;dsimp only at e;split at e
   .cases e
   .show HM d n _ k j dm e
  .rw[if_neg c,d,HL]at e;let#[rfl,rfl]:=e;show#[hp,λz=>c<|beq_iff_eq.mpr z]
def Tb.free(b:Tb led t)(e:t.freeSlot h=M (sl,wd)):t.place[jz t.place sl]?≠M sl:=by
 unfold SetTable.freeSlot at e;split at e
 .rename_i j dm k;let#[rfl,q]:=HM b.d _ _ rfl j dm k;simp at e;rw[<-e.1];show q
 .cases e
def Tb.layNew(b:Tb led t)(es:Wl)(h:Int)(x:Zu):Tb led (layNew t es h x).2.1:=by
 unfold PySem.layNew;split
 .rename_i j wd e;calc Tb.orStandIn ?_ _;calc#[b.r.insert<|b.free e,?_,b.l];change(if zE t.dummies j then _ else t.dummies)=#[];rw[b.d,HL];rfl
 .show b.standIn _
def Tb.laid(e:SetTable.laid mask fi mo led pl hs=M (t',o)):Tb led t':=by unfold SetTable.laid at e;cases q:SetTable.layClean mask hs with|none=>rw[q]at e;cases e|some D=>rw[q]at e;have e:=e;let#[rfl,_]:=e;calc#[?_,rfl,rfl];change(List.map _ _).Pairwise _;rw[tN];calc List.Pairwise.filterMap _ (λa B k b m C j=>?_) E0;let#[_,_,rfl]:=ZL.mp m;let#[_,_,rfl]:=ZL.mp j;show k
def Tb.relayAll(b:Tb led t)(es:Wl)(w:Nat):Tb led (tE t es w).2.1:=by
 unfold PySem.relayAll;split
 .rename_i j o e;dsimp only;split
  .unfold SetTable.relaid at e;rw[b.l]at e;show Tb.laid e
  .show b.standIn _
 .show b.standIn _
end
theorem Br:∀{l:List α}{i:Nat}{x:α},l[i]?=M x->(x::l.eraseIdx i).Perm l|[],i,x,e=>by simp at e|a::l,0,x,e=>by simp at e;subst e;show t8 _|a::l,i+1,x,e=>by simp at e;show(List.Perm.swap a x _).trans<|(Br e).cons a
theorem HN:∀(f k:Nat)(l:List α)(j:Array α),l.length<=f->(zN nx f k l j).toList.Perm (j.toList++l)
 |0,k,l,j,h=>by obtain rfl:l=[]:=sf<|rG 06;unfold zN;simp
 |f+1,k,l,j,h=>by
  unfold zN;cases e:l[nx k%l.length]? with
  |none=>
   have:l=[]:=by
    cases l with
    |nil=>rfl
    |cons a l=>have:nx k%(a::l).length<(a::l).length:=Nat.mod_lt _ 03;rw[Zh this]at e;cases e
   subst this;simp
  |some x=>dsimp only;have m:=(Zs.mp e).1;calc(HN f (k+1) _ _<|by rw[ES m];show Nat.sub_le_of_le_add h).trans ?_;rw[zA,iz];show(Br e).append_left _
def UP(nx)(xs:Array α):(tB nx xs).toList.Perm xs.toList:=by have:=HN (nx:=nx) xs.size 0 xs.toList #[] 03;unfold tB;simpa using this
abbrev ents(es:Wl):To:=es.toList.map λe=>numOf e.2
def hY(es:List<|Int×Zu):Prop:=∀e∈es,∃n t,e=(qh n,sI n t)
def fA(wd:bo)(h:bp)(a:ZD)(ns:To):Prop:=∃o es ep t,h.get? a=M o/\o.ExactSet/\o.data=.set es ep t/\hY es.toList/\ents es=ns/\es.size<kU/\t.fits es.size=Zl/\Tb (!gw wd) t
def fA.moved(q:fA wd hp a ns)(m:∀o,hp.get? a=M o->h2.get? a=M o):fA wd h2 a ns:=by let#[o,B,C,t,k,j]:=q;show#[o,B,C,t,m o k,j]
theorem hY.perm(h:hY l)(p:l'.Perm l):hY l':=λe j=>h e<|p.mem_iff.mp j
theorem hY.elems(h:hY l):ElemsOf (rT pr wd) l:=λe j=>by let#[n,t,rfl]:=h e j;show#[#[n,vC _ _ _ _,rfl],rfl]
section
variable{pr:ZW}{wd:bo}{A:bM}{E:aL}{s:Zy}{a:ZD}
def HP{h:bp}(j:h.get? a=M o)(hd:o.data=.set es ep t):(h.update a<|Obj.putSet es' t').get? a=M {o with data:=.set es' (ep+1) t'}:=by
 have:=k6 (Obj.putSet es' t') j<|by rw[putSet_of es' t' hd];rfl
 rwa [putSet_of es' t' hd]at this
def HQ(h:Q () s1):ZB (Z4 pr wd) A (match b with|true=>rule "set.scan.the-table-gave-way"|false=>pure ()) Q E s1:=by cases b<;>first|show Zp h|show jv h
def UQ(hS:fA wd s.heap a ns)(room:ns.length+1<kU)
  (h:∀b h' B,ka a s.heap h'->fA wd h' a B->B.Perm (if n∈ns then ns else ns++[n])->Q b {s with heap:=h'}):ZB (Z4 pr wd) A (setAddHashed a (.int n tk)<|qh n) Q E s:=by
 let#[o,H,ep,t,ho,U,hd,ai,en,hb,hf,tb]:=hS;have hel:ElemsOf (rT pr wd) H.toList:=ai.elems;have hkey:(rT pr wd).is n (.int n tk)=Zl:=vC _ _ _ _;have lz:H.size=ns.length:=by rw[<-en,Zn,gH]
 calc fh<|Ze<|rN ho hd hf ?_;dsimp only;rw[byScan_of rfl hb hel];simp![↓reduceIte];unfold setAddByScan;calc Ze ?_;calc Ze<|jv ?_;calc Ze<|wpAny_setScan_of hkey ho hd hf hel ?_;cases hr:List.findIdx? (λe=>(rT pr wd).is n e.2) H.toList with
 |some j=>
  dsimp only;let#[hj,hpj,_]:=ER.mp hr;have mem:n∈ns:=by rw[<-en];calc ZS.mpr #[H.toList[j],Z6 hj,?_];let#[m,t',e]:=ai _<|Z6 hj;rw[e]at hpj ⊢;show(rT pr wd).inj _ _ _ (vC _ _ _ _) hpj
  calc Zp<|Zp ?_;have e:s={s with heap:=s.heap}:=by cases s;rfl
  rw[e];show h _ s.heap ns (Heap.SameBut.refl a s.heap) #[o,H,ep,t,ho,U,hd,ai,en,hb,hf,tb]<|by rw[if_pos mem]
 |none=>
  dsimp only;have nmem:n∉ns:=λm=>by rw[<-en]at m;let#[e,O,q]:=ZS.mp m;let#[m',t',rfl]:=ai e O;have q:m'=n:=q;subst q;have:=EU.mp hr _ O;rw[show(rT pr wd).is m' (.int m' t')=Zl from vC _ _ _ _]at this;cases this
  have C:=layNew_perm t H (qh n)<|.int n tk;have D:=layNew_fits t H (qh n)<|.int n tk;have J:=tb.layNew H (qh n)<|.int n tk;generalize layNew t H (qh n) (.int n tk)=L at C D J ⊢;let#[k,t1,F,gave]:=L;dsimp only at C D J ⊢;rw[zA]at C;have X:=hY.perm (λe O=>by
   rcases ZQ.mp O with O|O
   .show ai e O
   .rw[ZE.mp O];show#[n,tk,rfl]) C
  have en1:(ents k).Perm (ns++[n]):=by
   have:=C.map λe=>numOf e.2
   rw[j9]at this;rwa [show H.toList.map (λe=>numOf e.2)=ns from en]at this
  have sz1:k.size=H.size+1:=by rw[<-gH,C.length_eq,ZM,gH];rfl
  have I:k.size<kU:=Zb (Zb (Zc (Zg sz1) 1)<|Zc (Zg lz) 2) room;have fin:∀h' B,ka a s.heap h'->fA wd h' a B->B.Perm (ents k)->Q Zl {s with heap:=h'}:=λh' B sb q p=>h Zl h' B sb q<|by rw[if_neg nmem];show p.trans en1
  calc Ze<|HQ ?_;have tail:∀{R:Wv->Zy->Prop},(∀h' B,ka a s.heap h'->fA wd h' a B->B.Perm (ents k)->R (M Zl) {s with heap:=h'})->ZB (Z4 pr wd) A (do
    storeSet a k t1
    if (!F&&t1.tooFull)=Zl then do
      (match (tE t1 k<|qA k.size).2.2 with|true=>rule "set.scan.the-table-gave-way"|false=>pure ())
      storeSet a (tE t1 k<|qA k.size).1 (tE t1 k<|qA k.size).2.1
      pure (M Zl)
     else pure (M Zl)) R E s:=λ{R} hR=>by
   calc Ze<|wpAny_storeSet_of ho hd ?_<|yQ I;have P:=HP (es':=k) (t':=t1) ho hd;have sb1:=nh s.heap a<|Obj.putSet k t1;split
   .have hp:=relayAll_perm t1 k<|qA k.size;have V:=relayAll_fits t1 k<|qA k.size;have S:=J.relayAll k<|qA k.size;generalize tE t1 k (qA k.size)=Rl at hp V S ⊢;let#[W,t3,gave2]:=Rl;dsimp only at hp V S ⊢;have Y:W.size=k.size:=by rw[<-gH,hp.length_eq,gH]
    calc Ze<|HQ ?_;calc Ze<|wpAny_storeSet_of P rfl ?_ (yQ<|Zb (Zc (Zg Y) 1) I);show Zp<|hR _ _ (sb1.trans<|nh _ a _) #[_,W,ep+1+1,t3,HP P rfl,U,rfl,X.perm hp,rfl,Zb (Zc (Zg Y) 1) I,V,S]<|hp.map _
   .show Zp<|hR _ _ sb1 #[_,k,ep+1,t1,P,U,rfl,X,rfl,I,D,J]<|t8 _
  split
  .calc Ze ?_;rw[hashByValue_scannable 8 rfl];calc Zp ?_;show tail λh' B sb q p=>by dsimp only;show Zp<|fin h' B sb q p
  .calc Ze<|Zp ?_;simp![↓reduceIte];show tail λh' B sb q p=>by dsimp only;show Zp<|fin h' B sb q p
end
def i7(f:Nat->Int):Nat->To|0=>[]|i+1=>if f i∈i7 f i then i7 f i else i7 f i++[f i]
theorem Bt(f):∀i,(i7 f i).length<=i
 |0=>Zk _
 |i+1=>by
  have:=Bt f i;unfold i7;split
  .show nK 06
  .simp_all
def UR(p:ms.Perm<|i7 f i):(if f i∈ms then ms else ms++[f i]).Perm (i7 f<|i+1):=by
 unfold i7;by_cases c:f i∈ms
 .rw[if_pos c,if_pos<|p.mem_iff.mp c];show p
 .rw[if_neg c,if_neg λz=>c<|p.mem_iff.mpr z];show p.append_right _
theorem HR(f)(x):∀i,x∈i7 f i↔∃j,j<i/\x=f j
 |0=>by simp[i7]
 |i+1=>by
  have k:=HR f x i;unfold i7;constructor
  .intro h;split at h
   .let#[j,m,e]:=k.mp h;show#[j,jO 06,e]
   .rcases ZQ.mp h with h|h
    .let#[j,m,e]:=k.mp h;show#[j,jO 06,e]
    .show#[i,ZY _,ZE.mp h]
  .rintro⟨j,m,rfl⟩;by_cases e:j=i
   .subst e;split
    .assumption
    .simp_all
   .have:=k.mpr #[j,ZX (Z5 m) e,rfl];split
    .show this
    .show iL _ this
abbrev Vi(zs:To):Nat->Int:=λi=>zs.getD i 0
def uJ(wd:bo)(h:bp)(a:ZD)(f:Nat->Int)(i:Nat):Prop:=∃ms,fA wd h a ms/\ms.Perm (i7 f i)
section
variable{pr:ZW}{wd:bo}{B:bM}{E:aL}{z:Zy}{l:ZD}{us:Tu}{zs:To}{Q:aL}
def US(R:B.handled=Z)(hl:z.heap.IsList l us.toArray)(D:d8 us zs)(room:zs.length+1<kU) (fin:∀(h2:bp)(tk:Nat),uJ wd h2 z.heap.objs.size (Vi zs) zs.length->(∀b o,z.heap.get? b=M o->h2.get? b=M o)->Q (.ref z.heap.objs.size) {z with heap:=h2,toks:=tk}):ZB (Z4 pr wd) B (call (.type "set") [.ref l]) Q E z:=by
 have len:us.toArray.size=zs.length:=by rw[fN,D.length]
 refine G5 (SA:=λh a i=>uJ wd h a (Vi zs) i) R hl #[λ⟨I,h,p⟩ m=>#[I,h.moved m,p],λ{A E i v C z Q} q lt ⟨I,hm,pm⟩ k=>?_,λg=>#[[],#[_,#[],0,_,g,#[rfl,rfl,rfl],rfl,(λe S=>by simp at S),rfl,01,rfl,#[.nil,rfl,rfl]],t8 _]]<|by rw[len];show fin
 rw[len]at lt;let#[t,e]:=D.get i _<|Zh lt;rw[yZ,e]at q;cases q;have O:zs[i]=Vi zs i:=by simp[Vi,lt]
 have J:I.length<=i:=by rw[pm.length_eq];show Bt _ i
 rw[O];show fh (Ze<|wpAny_pyHash_int<|UQ (s:={z with toks:=z.toks+1}) hm (Zo<|Zb (Zc (Zb (Zc J 2)<|Zc lt 1) 1) room) λ_ P j sb H F=>k _ P sb #[j,H,F.trans<|UR pm])
end
theorem QT:Slot "set_iterator" "__next__" "set_iterator.__next__" :=.of (owner:="set_iterator") (n:="__next__") (by rw[yS,yP];kernel_rfl) (by decide +kernel) (by decide +kernel) (by decide +kernel) (by first|show .inl (by decide +kernel)|show .inr (by decide +kernel)) (by rw[isSubtype_type];kernel_rfl)
theorem HS:Slot "set_iterator" "__iter__" "set_iterator.__iter__" :=.of (owner:="set_iterator") (n:="__iter__") (by rw[yS,yP];kernel_rfl) (by decide +kernel) (by decide +kernel) (by decide +kernel) (by first|show .inl (by decide +kernel)|show .inr (by decide +kernel)) (by rw[isSubtype_type];kernel_rfl)
theorem w7:entryFor table "set_iterator.__next__"=M iw.«set_iterator.__next__» :=entryFor_of_fast 02
def w8(a):kY "set_iterator.__next__" #[[a],[]]:=by unfold kY;kernel_rfl
theorem UT:entryFor table "set.__iter__"=M iw.«frozenset.__iter__» :=entryFor_alias (id':="frozenset.__iter__") 02 rfl (by decide +kernel) 02
def df(h:bp)(it:ZD)(F:Zu)(i:Nat)(a:ZD)(n ep:Nat):Prop:=∃o,h.get? it=M o/\o.cls=.type "set_iterator"/\o.data=.fields (bV [F,.int i 0,.ref a,.int n 0,.int ep 0])
theorem df.ty{s:Zy}(x:df s.heap it F i a n ep):s.TypeIs (.ref it) "set_iterator":=let ⟨o,j,k,_⟩:=x;#[o,j,k]
section
variable{pr:ZW}{wd:bo}{A:bM}{E:aL}{s:Zy}{a it:ZD}{o:Obj}{es:Wl}{ep i n sl:Nat}{t:SetTable}
def HU(k:gw wd=Zl)(j:s.heap.get? a=M o)(hd:o.data=.set es ep t)(m:t.fits es.size=Zl) (h:Q (((tB (wd.params.setOrder a ep) es)[i]?).map λe=>(e.2,sl)) s):ZB (Z4 pr wd) A (pF a sl i ep) Q E s:=by unfold pF;calc Ze<|rN j hd m ?_;calc Ze<|Ze<|rO<|Zp ?_;change ZB _ _ (if gw wd=Zl then _ else _) _ _ s;rw[if_pos k];dsimp only;rw[if_neg 03];calc Ze<|Ze<|rN j hd m ?_;calc Ze<|Ze<|rO<|Zp ?_;change ZB _ _ (if gw wd=Zl then _ else _) _ _ s;rw[if_pos k];show Ze<|rO<|Zp<|Zp h
def HV(B:gw wd=Zm)(k:s.heap.get? a=M o)(hd:o.data=.set es ep t)(m:t.fits es.size=Zl)(hp:(!t.plain&&decide (es.size>1))=Zm)(hl:t.led=Zl) (h:Q (match es[jz t.place sl]?,t.place[jz t.place sl]? with|some (_,x),M j=>M (x,j+1)|_,_=>Z) s):ZB (Z4 pr wd) A (pF a sl i ep) Q E s:=by unfold pF;calc Ze<|rN k hd m ?_;calc Ze<|Ze<|rO<|Zp ?_;change ZB _ _ (if gw wd=Zl then _ else _) _ _ s;rw[if_neg<|by simp_all];change ZB _ _ (if (!t.plain&&decide (es.size>1))=Zl then _ else _) _ _ s;rw[if_neg<|by simp_all];calc Ze<|show ZB _ _ (if (!t.led&&!es.isEmpty)=Zl then _ else _) _ _ s from ?_;rw[hl];simp;show Zp<|Zp h
def UW(j:s.heap.get? a=M o)(hd:o.data=.set es ep t)(k:t.fits es.size=Zl)(hx:es[p]?=M x)(h:Q x.2 s):ZB (Z4 pr wd) A (setNextDrawn a p ep) Q E s:=by calc Ze<|rN j hd k ?_;dsimp only;rw[if_neg 03,hx];show Zp h
def UX(k:df s.heap it (.int sl 0) i a n ep)(O:s.heap.get? a=M o)(hd:o.data=.set es ep t)(F:t.fits es.size=Zl)(hn:es.size=n) (H:∀(C:Wg->Zy->Prop)(P:aL),C (M (x,nx)) s->ZB (Z4 pr wd) A.in1 (pF a sl i ep) C P s) (I:∀h',df h' it (.int nx 0) (i+1) a n ep->ka it s.heap h'->Q (M x) {s with heap:=h'}):ZB (Z4 pr wd) A (kW<|.ref it) Q E s:=by
 let#[m,D,J,j]:=id k;unfold kW;calc Ze<|rR<|td k.ty QT<|ph QT k.ty w7 ?_<|w8 _;calc Ze<|Zp ?_;calc Ze<|vt D j ?_;calc Ze<|ti O hd F ?_;rw[if_neg<|by rw[hn];simp];calc Ze<|H _ _ ?_;calc Ze<|j4 D j 03 ?_;have B:(s.heap.update it (iO (·.setIfInBounds 0 (cN (nx:Int))))).get? it=M (m.mapFields (·.setIfInBounds 0 (cN (nx:Int)))):=k6 _ D<|pT<|iC j _;have d1:(m.mapFields (·.setIfInBounds 0 (cN (nx:Int)))).data=.fields (bV [.int nx 0,.int i 0,.ref a,.int n 0,.int ep 0]):=by rw[iC j];simp[cN]
 calc Ze<|j4 B d1 03 ?_;calc Zp #[_,rfl,Zp<|I _ #[_,k6 _ B<|pT<|iC d1 _,(tY ..).trans<|(tY ..).trans J,?_]<|(nh ..).trans<|nh ..];rw[iC d1];simp[cN]
def HW(j:A.handled=Z)(e1:pO it s.heap h1)(k:∀h' e,pO it s.heap h'->(∃o,h'.get? e=M o/\o.cls=.type "StopIteration")->E' (.ref e) {s with heap:=h'}):ZB (Z4 pr wd) A.in1 (newExc (.type "StopIteration") []>>=λe=>(raiseNew e:Sem α)) Qf E' {s with heap:=h1}:=by
 calc Ze ?_;calc Ze (mV ?_<|by size_fits);calc Ze (rW (by first|rfl|(simp;rfl)) ?_);refine mV ?_<|by size_fits
 calc Ze<|wpAny_handled ?_;rw[show A.in1.handled=Z from j];show Ze<|Zp<|wpAny_throw<|k _ _ ((e1.push _).push _) #[_,Zx _ rfl,rfl]
def UY(I:A.handled=Z)(j:df s.heap it (.int sl 0) i a n ep)(O:s.heap.get? a=M o)(hd:o.data=.set es ep t)(B:t.fits es.size=Zl)(hn:es.size=n) (C:∀(m:Wg->Zy->Prop)(R:aL),m Z s->ZB (Z4 pr wd) A.in1 (pF a sl i ep) m R s) (F:∀h',pO it s.heap h'->Q Z {s with heap:=h'}):ZB (Z4 pr wd) A (kW<|.ref it) Q E s:=by
 let#[S,D,U,k]:=id j;calc Ze<|rR<|td j.ty QT<|ph QT j.ty w7 ?_<|w8 _;calc Ze<|Zp ?_;calc Ze<|vt D k ?_;calc Ze<|ti O hd B ?_;rw[if_neg<|by rw[hn];simp];calc Ze<|C _ _ ?_;calc Ze<|j4 D k 03 ?_;refine HW I (nh ..).extBut λh' e x ⟨J,P,H⟩=>?_
 show Ze<|yR #[J,P,H] isSubtype_stop<|Zp<|F _ x
def UZ{nt p:Nat}(k:df s.heap it (.ref T) i a n ep)(B:s.heap.get? a=M o)(hd:o.data=.set es ep t)(m:t.fits es.size=Zl)(hn:es.size=n) (F:s.heap.get? T=M ot)(H:ot.data=.seq its nt)(hp:its[i]?=M (.int p tk))(hx:es[p]?=M x) (I:∀h',df h' it (.ref T) (i+1) a n ep->ka it s.heap h'->Q (M x.2) {s with heap:=h'}):ZB (Z4 pr wd) A (kW<|.ref it) Q E s:=by let#[J,D,C,j]:=id k;calc Ze<|rR<|td k.ty QT<|ph QT k.ty w7 ?_<|w8 _;calc Ze<|Zp ?_;calc Ze<|vt D j ?_;calc Ze<|ti B hd m ?_;rw[if_neg<|by rw[hn];simp];calc Ze<|nN F H ?_;simp![m6,hp];calc Ze<|UW B hd m hx ?_;calc Ze<|j4 D j 03 ?_;calc Zp #[_,rfl,Zp<|I _ #[_,k6 _ D<|pT<|iC j _,(tY ..).trans C,?_]<|nh ..];rw[iC j];simp[cN]
def U0(H:A.handled=Z)(k:df s.heap it (.ref T) i a n ep)(P:s.heap.get? a=M o)(hd:o.data=.set es ep t)(B:t.fits es.size=Zl)(hn:es.size=n) (C:s.heap.get? T=M ot)(R:ot.data=.seq its nt)(hp:its[i]?=Z)(U:∀h',pO it s.heap h'->Q Z {s with heap:=h'}):ZB (Z4 pr wd) A (kW<|.ref it) Q E s:=by
 let#[m,D,V,j]:=id k;unfold kW;calc Ze<|rR<|td k.ty QT<|ph QT k.ty w7 ?_<|w8 _;calc Ze<|Zp ?_;calc Ze<|vt D j ?_;calc Ze<|ti P hd B ?_;rw[if_neg<|by rw[hn];simp];calc Ze<|nN C R ?_;simp![m6,hp];calc Ze<|j4 D j 03 ?_;have I:(s.heap.update it (iO (·.setIfInBounds 0 (cN 0)))).get? it=M (m.mapFields (·.setIfInBounds 0 (cN 0))):=k6 _ D<|pT<|iC j _;have d1:(m.mapFields (·.setIfInBounds 0 (cN 0))).data=.fields (bV [.int 0 0,.int i 0,.ref a,.int n 0,.int ep 0]):=by rw[iC j];simp[cN]
 calc Ze<|j4 I d1 03 ?_;have O:=((nh s.heap it (iO (·.setIfInBounds 0 (cN 0)))).trans (nh (s.heap.update it (iO (·.setIfInBounds 0 (cN 0)))) it (iO (·.setIfInBounds 2 .none)))).extBut;refine HW (s:=s) H O λh' e x ⟨J,S,F⟩=>?_
 show Ze<|yR #[J,S,F] isSubtype_stop<|Zp<|U _ x
end
theorem WA:entryFor table "set_iterator.__iter__"=M iw.«dict_keyiterator.__iter__» :=entryFor_alias (id':="dict_keyiterator.__iter__") 02 rfl (by decide +kernel) 02
def WB(a):kY "set_iterator.__iter__" #[[a],[]]:=by unfold kY;kernel_rfl
section
variable{pr:ZW}{wd:bo}{A:bM}{E:aL}{s:Zy}{a it T:ZD}{o ot:Obj}{es:Wl}{ep n nt:Nat}{t:SetTable}{ord:Tu}
def df.self(j:df s.heap it F i a n ep)(h:Q (.ref it) s):ZB (Z4 pr wd) A (kX<|.ref it) Q E s:=by calc wpAny_pyIter_slot j.ty HS<|ph HS j.ty WA ?_<|WB _;show Zp #[_,rfl,"set_iterator",_,j.ty,QT.lookup,h]
theorem df.at(x:df h it F i a n ep)(e:∀o,h.get? it=M o->h'.get? it=M o):df h' it F i a n ep:=let ⟨o,j,r⟩:=x;#[o,e _ j,r]
theorem HX(R:A.handled=Z)(ne:a≠it)(hd:o.data=.set es ep t)(J:t.fits es.size=Zl)(hn:es.size=n)(sl:Nat->Nat)(lo:ord.length=n) (P:∀(i:Nat)(s:Zy)(x:Zu),s.heap.get? a=M o->ord[i]?=M x->∀(B:Wg->Zy->Prop)(H:aL),B (M (x,sl<|i+1)) s->ZB (Z4 pr wd) A.in1 (pF a (sl i) i ep) B H s) (S:∀(s:Zy),s.heap.get? a=M o->∀(B:Wg->Zy->Prop)(H:aL),B Z s->ZB (Z4 pr wd) A.in1 (pF a (sl n) n ep) B H s):Walks pr wd A it [it,a] [it] n (λi v=>ord[i]?=M v) (λi h=>df h it (.int (sl i) 0) i a n ep/\h.get? a=M o) where
 sub:=λb j=>by simp at j;simp[j]
 frame:=λ_ _ _ st O=>#[st.1.at λo e=>O it 03 o e,O a 03 _ st.2]
 item:=λi s Q E D st C=>by
  have hx:ord[i]?=M (ord[i]'(Zb D<|Zg lo.symm)):=Zh _;refine UX st.1 st.2 hd J hn (P i s _ st.2 hx) λI m k=>?_
  show C _ I s.toks hx #[m,(k.2 a ne).trans st.2] λb o j e=>(k.2 b λh=>j<|by simp[h]).trans e
 done:=λs Q E st C=>UY R st.1 st.2 hd J hn (S s st.2) λI F=>C I s.toks λb o j e=>F b o (λh=>j<|by simp[h]) e
 self:=λ_ _ _ _ st C=>st.1.self C
theorem WC(S:A.handled=Z)(ne:a≠it)(U:T≠it)(hd:o.data=.set es ep t)(O:t.fits es.size=Zl)(hn:es.size=n)(ps:Tp)(P:ps.length=n)(R:ot.data=.seq (bV<|ps.map λ(i:Nat)=>cN i) nt)(hp:∀p∈ps,p<es.size):Walks pr wd A it [it,a,T] [it] n (λi v=>(ps.map λp=>(es.getD p (0,.none)).2)[i]?=M v) (λi h=>df h it (.ref T) i a n ep/\h.get? a=M o/\h.get? T=M ot) where
 sub:=λb m=>by simp at m;simp[m]
 frame:=λ_ _ _ st H=>#[st.1.at λo e=>H it 03 o e,H a 03 _ st.2.1,H T 03 _ st.2.2]
 item:=λi s Q E D st C=>by
  have j:i<ps.length:=Zb D<|Zg P.symm;have J:=hp _<|Z6 j;refine UZ (tk:=0) st.1 st.2.1 hd O hn st.2.2 R (by simp[j,cN]) (Fb J) λI B k=>?_
  refine C _ I s.toks ?_ #[B,(k.2 a ne).trans st.2.1,(k.2 T U).trans st.2.2] λb o m e=>(k.2 b λh=>m<|by simp[h]).trans e
  simp[j,Array.getD,J]
 done:=λs Q E st C=>U0 S st.1 st.2.1 hd O hn st.2.2 R (by simp[P]) λI F=>C I s.toks λb o m e=>F b o (λh=>m<|by simp[h]) e
 self:=λ_ _ _ _ st C=>st.1.self C
theorem WG(hm:m≠0)(h:∀i d',i<m->Q i {s with drawn:=d'}):ZB (Z4 pr wd) A (choose src m) Q E s:=λΓ p _=>by change Sem.wp _ Γ (.choose src m .pure) _ _ p s;calc#[hm,?_];show h _ _<|Nat.mod_lt _<|lD hm
theorem HY:∀(n:Nat)(xs:List α)(s:Zy)(Q:List α->Zy->Prop),xs.length=n->(∀ys d',ys.Perm xs->Q ys {s with drawn:=d'})->ZB (Z4 pr wd) A (drawOrder n xs) Q E s
 |0,xs,s,Q,h,hQ=>by obtain rfl:xs=[]:=sf h;show Zp<|hQ [] s.drawn<|t8 _
 |n+1,[],s,Q,h,hQ=>by cases h
 |n+1,x::xs,s,Q,h,hQ=>by
  unfold drawOrder;refine Ze<|WG 03 λi d' D=>?_
  have e:=Zh D;have el:((x::xs).eraseIdx i).length=n:=by rw[ES D,h];rfl
  have pm:=Br e;rw[e];dsimp only;refine Ze<|HY n _ _ _ el λys d2 p=>?_
  show Zp<|hQ _ d2<|(p.cons _).trans pm
structure qY(pr:ZW)(wd:bo)(a lo it:ZD)(h:bp)(ns:To)(fp:Tv)(ord:Tu)(St:Nat->bp->Prop):Prop where
 w:∀A:bM,A.handled=Z->Walks pr wd A it fp [it] ns.length (λi v=>ord[i]?=M v) St
 st:St 0 h
 fp:∀b∈fp,b=a\/lo<=b
 zs:∃ms,d8 ord ms/\ms.Perm ns
def WH(h:hY l):d8 (l.map (·.2)) (l.map λe=>numOf e.2):=by
 have:=intsAre_map (l.map (·.2)) λv hv=>by let#[e,j,rfl]:=ZS.mp hv;let#[n,t,rfl]:=h e j;show#[n,t,rfl]
 rwa [d0]at this
theorem Bu{l j:List (Int×Zu)}(h:hY l)(en:l.map (λe=>numOf e.2)=ns)(p:j.Perm l):∃k,d8 (j.map (·.2)) k/\k.Perm ns:=#[_,WH<|h.perm p,en▸p.map _]
def WI(hS:fA wd s.heap a ns)(hQ:∀it h' d' fp ord St,qY pr wd a s.heap.objs.size it h' ns fp ord St->(∀b o,s.heap.get? b=M o->h'.get? b=M o)->s.heap.objs.size<=it->Q (.ref it) {s with heap:=h',drawn:=d'}):
  ZB (Z4 pr wd) A (kX<|.ref a) Q E s:=by
 let#[o,j,ep,t,C,X,hd,V,en,F,k,I]:=hS;have hT:s.TypeIs (.ref a) "set":=#[o,C,X.1];have B:j.size=ns.length:=by rw[<-en,Zn,gH]
 have lt:=Z3 C;calc wpAny_pyIter_slot hT Fo<|ph Fo hT UT ?_<|PySem.F.args_set_iter_1 _;unfold iw.«frozenset.__iter__»;calc Ze<|Zp ?_;calc Ze<|Ze<|ti C hd k<|Zp ?_;calc Ze ?_;unfold setDrawn setsByText;calc Ze<|rN C hd k ?_;calc Ze<|Ze<|rO<|Zp ?_;calc Zp ?_;change ZB _ _ (if (!gw wd&&(!t.plain&&decide (j.size>1)))=Zl then _ else _) _ _ s;cases c:(!gw wd&&(!t.plain&&decide (j.size>1)))with
 |true=>
  rw[if_pos rfl];refine Ze<|HY j.size (cO j.size) s _ 03 λps d' pm=>?_
  have lp:ps.length=j.size:=by rw[pm.length_eq,mY]
  have hp:∀p∈ps,p<j.size:=λp h=>fO.mp<|pm.mem_iff.mp h
  calc Ze (yU ?_<|by rw[Zn,lp];show yQ F);change ZB _ _ (setEpoch a>>=_) _ _ _;calc Ze<|wpAny_setEpoch_of (Zj _ C) hd k ?_;calc Ze<|mV<|Zp #[_,rfl,"set_iterator",_,#[_,Zx _ rfl,rfl],QT.lookup,?_];have sz:(s.heap.push<|bc "tuple" (bV<|ps.map λ(i:Nat)=>cN i) 0).objs.size=s.heap.objs.size+1:=pQ ..;refine hQ _ _ d' [(s.heap.push<|bc "tuple" (bV<|ps.map λ(i:Nat)=>cN i) 0).objs.size,a,s.heap.objs.size] (ps.map λp=>(j.getD p (0,.none)).2) (λi h=>df h (s.heap.push<|bc "tuple" (bV<|ps.map λ(i:Nat)=>cN i) 0).objs.size (.ref s.heap.objs.size) i a ns.length ep/\h.get? a=M o/\h.get? s.heap.objs.size=M (bc "tuple" (bV<|ps.map λ(i:Nat)=>cN i) 0)) #[λA H=>?_,?_,?_,?_] (λb o e=>Zj _<|Zj _ e)<|by rw[sz];show gi _
  .show WC (nt:=0) (o:=o) (ep:=ep) H (by rw[sz];show Zw<|jO lt) (by rw[sz];show Zw<|ZY _) hd k B ps (by rw[lp,B]) rfl hp
  .calc#[#[_,Zx _ rfl,rfl,?_],Zj _<|Zj _ C,Zj _<|Zx _ rfl];simp[cN,B]
  .intro b F;simp![ZC,eZ,or_false]at F;rcases F with rfl|rfl|rfl
   .show .inr<|by rw[sz];show gi _
   .show .inl rfl
   .show .inr<|Zk _
  .have e1:(ps.map λp=>(j.getD p (0,.none)).2)=(ps.map λp=>j.getD p (0,.none)).map (·.2):=by rw[d0];rfl
   rw[e1];calc Bu V en ?_;have e2:(cO j.size).map (λp=>j.getD p (0,.none))=j.toList:=by
    refine kZ 03 λi h1 h2=>?_
    have h3:i<j.size:=by simpa using h1
    simp[Array.getD,h3]
   rw[<-e2];show pm.map _
 |false=>
  rw[if_neg Zz];calc Ze<|Zp ?_;calc Ze<|wpAny_setEpoch_of C hd k ?_;calc Ze<|mV<|Zp #[_,rfl,"set_iterator",_,#[_,Zx _ rfl,rfl],QT.lookup,?_];have P:∀b∈[s.heap.objs.size,a],b=a\/s.heap.objs.size<=b:=λb F=>by
   simp![ZC,eZ,or_false]at F;rcases F with rfl|rfl
   .show .inr<|Zk _
   .show .inl rfl
  have go:∀(U:Nat->Nat)(ord:Tu),U 0=0->(∀A:bM,A.handled=Z->Walks pr wd A s.heap.objs.size [s.heap.objs.size,a] [s.heap.objs.size] ns.length (λi v=>ord[i]?=M v) (λi h=>df h s.heap.objs.size (.int (U i) 0) i a ns.length ep/\h.get? a=M o))->(∃ms,d8 ord ms/\ms.Perm ns) ->
    Q (.ref s.heap.objs.size) {s with heap:=s.heap.push {cls:=.type "set_iterator",data:=.fields (bV [.int 0 0,.int 0 0,.ref a,.int ns.length 0,.int ep 0])} }:=λU ord h0 w q=>
   hQ _ _ s.drawn _ ord _ #[w,#[#[_,Zx _ rfl,rfl,by rw[h0];rfl],Zj _ C],P,q] (λb o e=>Zj _ e) (Zk _)
  have ne:a≠s.heap.objs.size:=Zw lt;rw[B];cases m:gw wd with
  |true=>
   have pm:=UP (wd.params.setOrder a ep) j;have W:((tB (wd.params.setOrder a ep) j).toList.map (·.2)).length=ns.length:=by rw[Zn,pm.length_eq,gH,B]
   refine go (λ_=>0) ((tB (wd.params.setOrder a ep) j).toList.map (·.2)) rfl (λA H=>HX H ne hd k B (λ_=>0) W (λi R x g e Y S q=>HU m g hd k ?_) λR g Y S q=>HU m g hd k ?_) (Bu V en pm)
   .rw[ZI,lO]at e;let#[y,J,rfl]:=ZL.mp e;rw[J];show q
   .rw[zz<|by simp_all];show q
  |false=>
   rw[m]at c I;have c:=c;have O:t.place.size=j.size:=by unfold SetTable.fits at k;simp![Zv,beq_iff_eq]at k;show k.1
   have W:(j.toList.map (·.2)).length=ns.length:=by rw[Zn,gH,B]
   refine go (YH t.place) (j.toList.map (·.2)) rfl (λA H=>HX H ne hd k B (YH t.place) W (λi R x g e Y S q=>HV m g hd k c I.l ?_) λR g Y S q=>HV m g hd k c I.l ?_) (Bu V en<|t8 _)
   .rw[ZI,lO]at e;let#[y,J,rfl]:=ZL.mp e;have D:i<j.size:=(sF.mp J).1;rw[HK I.r<|Zo<|Zb D<|Zg O.symm,J,Fb<|show i<t.place.size by show Zb D<|Zg O.symm];have:YH t.place (i+1)=t.place[i]+1:=by simp[YH,Array.getD,show i<t.place.size by show Zb D<|Zg O.symm]
    rw[this]at q;show q
   .rw[HK I.r<|Zb (Zg B.symm)<|Zg O.symm,zz<|Zg B];show q
end
def WJ:vA (.type "set") "__len__"=pure (M<|.builtin "set.__len__"):=by rw[yS,yP];kernel_rfl
section
variable{pr:ZW}{wd:bo}{A:bM}{E:aL}{s:Zy}{a:ZD}
def WK(j:s.TypeIs (.ref a) "set")(h:Q Zm s):ZB (Z4 pr wd) A (Builtin.List.listLengthHint<|.ref a) Q E s:=by calc Ze<|wpAny_specialOf j WJ ?_;dsimp only;calc Ze<|yR j PySem.sub_set_self ?_;simp;show Ze<|wpAny_typeOf j<|Zp h
def WL(hh:A.handled=Z)(hS:fA wd s.heap a ns)(J:ns.length<4096)(hQ:∀h' d' tk ord R,d8 ord R->R.Perm ns->(∀b o,s.heap.get? b=M o->h'.get? b=M o)->s.heap.objs.size<h'.objs.size->Q ord {s with heap:=h',drawn:=d',toks:=tk}):
  ZB (Z4 pr wd) A (collect<|.ref a) Q E s:=by
 obtain⟨o,C⟩:∃o,s.heap.get? a=M o/\o.cls=.type "set":=by let#[o,es,ep,t,ho,hex,_]:=hS;show#[o,ho,hex.1]
 have la:=Z3 C.1;unfold collect;calc Ze<|yT<|jQ Fg ?_;rw[lR PySem.F.plain_proto_collect _];calc Ze<|pv ?_<|ZF _;calc Zp #[jR v5 _,jQ Fj ?_];rw[lR v5 _];change ZB _ A.in1 (Fq (.ref s.heap.objs.size) (.ref a)<|.ref s.heap.objs.size) _ _ _;unfold Fq;have j:∀b o,s.heap.get? b=M o->(s.heap.push<|bc "list" #[] 0).get? b=M o:=λb o e=>Zj _ e
 have gL:(s.heap.push<|bc "list" #[] 0).get? s.heap.objs.size=M (bc "list" #[] 0):=Zx _ rfl;have hT1:zM {s with heap:=s.heap.push (bc "list" #[] 0)} (.ref a) "set":=#[o,j _ _ C.1,C.2];calc Ze<|wpAny_typeOf hT1 ?_;have h1:Fs (.ref s.heap.objs.size) (.ref a)=Zm:=by simp[Fs,dH la]
 rw[if_neg<|by rw[h1];decide];refine Ze<|WI (hS.moved λo e=>j _ _ e) λit H d2 fp ord St W m le=>?_
 have P:(s.heap.push<|bc "list" #[] 0).objs.size=s.heap.objs.size+1:=pQ ..;have O:=m _ _ gL;have hT2:zM {s with heap:=H,drawn:=d2} (.ref a) "set":=#[o,m _ _<|j _ _ C.1,C.2];calc Ze<|fh<|WK hT2 ?_;rw[if_pos<|by decide +kernel];calc Ze<|jv ?_;have nS:s.heap.objs.size∉fp:=λJ=>by
  rcases W.fp _ J with e|e
  .show absurd e<|dH la
  .rw[show({s with heap:=s.heap.push (bc "list" #[] 0)}:Zy).heap.objs.size=s.heap.objs.size+1 from P]at e;show absurd e<|Nat.not_le_of_gt<|ZY _
 have bg:10<=sizeLine:=01;unfold Builtin.List.listTouch;calc Ze (Ze (pP (f:=(·.push .none)) O rfl ?_ (ZF _) (show 1<=sizeLine+1 by show iI _)));obtain⟨c3,g3⟩:∃c3,(H.update s.heap.objs.size (dt (·.push .none))).get? s.heap.objs.size=M (bc "list" #[.none] c3):=#[_,nc O (·.push .none)];calc pP (f:=(·.pop)) g3 rfl ?_ (show 1<=sizeLine by show iI _) (ZF _);obtain⟨V,g4⟩:∃V,((H.update s.heap.objs.size (dt (·.push .none))).update s.heap.objs.size (dt (·.pop))).get? s.heap.objs.size=M (bc "list" #[] V):=#[_,nc g3 (·.pop)];have B:∀b o,b≠s.heap.objs.size->H.get? b=M o->((H.update s.heap.objs.size (dt (·.push .none))).update s.heap.objs.size (dt (·.pop))).get? b=M o:=λb o nb e=>(Z9 _ _<|ZV nb).trans<|(Z9 _ _<|ZV nb).trans e
 generalize (H.update s.heap.objs.size (dt (·.push .none))).update s.heap.objs.size (dt (·.pop))=h4 at g4 B;have S:=(W.w A.in1 hh).frame 0 H h4 W.st λb J o e=>B b o (λz=>nS<|z▸J) e
 calc Zp #[jR PySem.F.plain_extend_loop _,codeAny_extend_loopS (W.w A.in1 hh).toS (Zb (Zo J) 01) _ nS _ ns.length 0 _ #[] V rfl (ZF _) S g4 (ItemsOf.nil _) λs5 I c5 mv g5 k=>?_];calc Ze<|wpAny_load g5 ?_;calc Zp ?_;let#[R,D,hp]:=W.zs;have eo:I.toList=ord:=by
  have lo:ord.length=ns.length:=by rw[D.length,hp.length_eq]
  refine pL λi=>?_
  by_cases F:i<ns.length
  .have e1:I.toList[i]?=M (I[i]'(by rw[k.1];show F)):=by simp[k.1,F]
   rw[e1];show(k.2 i _<|by simp[k.1,F]).symm
  .rw[tJ (by rw[gH,k.1];show ZH F),tJ<|Zb (Zg lo)<|ZH F]
 rw[eo];let#[h5,X,d5,tk5,Y]:=s5;have eg:X=s.gens:=mv.gens;have ed:d5=d2:=mv.drawn;have eos:Y=s.os:=mv.os;subst eg;subst ed;subst eos;calc hQ h5 d5 tk5 ord R D hp (λb o e=>?_)<|Z3 g5;have lb:=Z3 e;have b1:b≠s.heap.objs.size:=Zw lb;have U:s.heap.objs.size+1<=it:=by rw[<-P];show le
 have b2:b≠it:=Zw<|Zr lb<|Zb (gi _) U;show mv.heap b o (by simp_all)<|B b o b1<|m _ _<|j _ _ e
def WM(V:A.handled=Z)(U:fA wd s.heap a ns)(F:ns.length<4090)
  (h:∀bE h' d' tk k B c,d8 k B->B.Perm ns->B.Pairwise (· <= ·)->s.heap.objs.size<=bE->(∀b o,s.heap.get? b=M o->h'.get? b=M o)->h'.get? bE=M (bc "list" (bV k) c)->Q (.ref bE) {s with heap:=h',drawn:=d',toks:=tk}):
  ZB (Z4 pr wd) A (call (.builtin "sorted") [.ref a]) Q E s:=by
 calc Calls.call_function_entry kind_sorted plain_sorted entry_sorted (args_sorted1 _) ?_;unfold iw.«sorted»;calc Ze (m:=checkCount "sorted" 1 1 _)<|Zp ?_;refine Ze<|WL V U (jo 06) λj d2 C ord ms D hp keep W=>?_
 have P:ord.length=ns.length:=by rw[D.length,hp.length_eq]
 calc Ze (pv ?_<|by rw[P,ju];show Z5<|Zb F<|Zd _ 16773127);have I:(j.push<|bc "list" ord.toArray 0).get? j.objs.size=M (bc "list" ord.toArray 0):=Zx _ rfl;calc Ze (fh<|ph (s:={s with heap:=j.push<|bc "list" ord.toArray 0,drawn:=d2,toks:=C}) slot_list_sort #[_,I,rfl] entry_list_sort (UH (s:={s with heap:=j.push<|bc "list" ord.toArray 0,drawn:=d2,toks:=C}) I D (Zb (Zb (Zc (Zg P) 1) F)<|Zd _ 6) λk B a1 S Y=>#[_,rfl,?_])<|args_list_sort _);obtain⟨O,H⟩:∃O,((j.push<|bc "list" ord.toArray 0).update j.objs.size<|dt λ_=>#[]).get? j.objs.size=M (bc "list" #[] O):=#[_,nc I λ_=>#[]];have J:((((j.push<|bc "list" ord.toArray 0).update j.objs.size<|dt λ_=>#[]).push<|bc "tuple" ord.toArray 0).push<|bc "list" #[] 0).get? j.objs.size=M (bc "list" #[] O):=Zj _<|Zj _ H;obtain⟨c,X⟩:∃c,(sortedHeap (j.push<|bc "list" ord.toArray 0) j.objs.size ord k).get? j.objs.size=M (bc "list" k c):=#[_,nc J λ_=>k];calc Zp #[_,rfl,h j.objs.size _ d2 C k.toList B c a1 (S.trans hp) Y (Zo W) (λb o e=>?_)<|by rw[Array.toArray_toList];show X];have R:b≠j.objs.size:=Zw<|Z3<|keep b o e;show(Z9 _ _<|ZV R).trans<|Zj _<|Zj _<|(Z9 _ _<|ZV R).trans<|Zj _<|keep b o e
end
theorem WN(I:Inv X V U H s):Inv X V U H {s with drawn:=d}:=#[I.ok,I.os,I.bare,I.base,I.loc,I.cell,I.free,I.cg,I.pin,I.aA,I.len]
section
variable{J:aN}{X:Cx}
def Yz(aa:A1):E1:=λU h=>(aa U h).bind λxs h1=>match xs with|[.ref i]=>(match h1[i]? with|some (.lst ys)=>(match JE ys with|some zs=>if zs.length<4000 then .ok (.ref h1.length) (h1++[.lst<|(Qo<|i7 (Vi zs) zs.length).map .int])else .stuck|none=>.stuck)|_=>.stuck)|_=>.stuck
theorem WO(hh:X.A.handled=Z)(g1:Gl X "sorted")(m1:X.mg "sorted"=Z)(g2:Gl X "set")(m2:X.mg "set"=Z)(ha:e9 J X [a] aa)(hs:ZZ [a] X.env=[(Zm,bN a X.env)]):
  ar J X (.Call (.Name "sorted" p) [.Call (.Name "set" p2) [a] [] pos2] [] pos) (Yz aa):=λV s U H Y bF h Q E N K=>by
 calc jt<|Q2 N.inv g1 m1 rfl ?_;calc vR ?_ rfl rfl;calc zp ?_;calc jt<|Q2 N.inv g2 m2 rfl ?_;calc qq ?_ hs rfl;refine(ha pos2).run N K λxs h1 us s1 H1 U1 m n1 r1 j=>?_
 let#[O,rv,qs]:=r1;match xs,j with
 |[.ref i],j=>
  let#[w,rfl,ad,rfl,P]:=qs.bS;let#[u,rfl,ru]:=Q3 rv;cases ru;dsimp only at j;cases D:h1[i]? with|none=>rw[D]at j;show(j).elim|some ob=>
   rw[D]at j;cases ob with
   |lst ys=>
    dsimp only at j;cases C:JE ys with|none=>rw[C]at j;show(j).elim|some zs=>
     rw[C]at j;dsimp only at j;split at j
     .rename_i room;let#[ws,e1,r3]:=m.at D P;let#[its,S,pl,_]:=m.inv.list<|b8.of e1;have W:=QI C r3 S;have dl:=Bt (Vi zs) zs.length;refine US hh pl.isList W (show zs.length+1<4096 by show Zb (Zc room 1)<|Zd _ 95) λh2 tk hS keep=>zq ?_
      let#[ms,hm,pm]:=hS;have lm:ms.length<=zs.length:=by rw[pm.length_eq];show dl
      refine WM hh hm (Zb (Zb (Zc lm 1) room)<|Zd _ 90) λR h3 d3 F I ns' c a1 a2 a3 le k hc=>?_
      have en:=G9 (a2.trans pm) a3;subst en;have B:s1.heap.objs.size<=R:=by let#[o,es,ep,t,ho,_]:=hm;show Zb (Zo<|Z3 ho) le
      have hl:((Qo<|i7 (Vi zs) zs.length).map bC.int).length<=sizeLine:=by have:=(a2.trans pm).length_eq;rw[Zn,this,ju];show Z5<|Zb (Zb (Zc dl 1) room)<|Zd _ 16773217
      have I':=m.inv.laid (a:=R) (o:=.lst<|(Qo<|i7 (Vi zs) zs.length).map bC.int) (h':=h3) (t':=F) (λb u q=>k _ _<|keep _ _ q) B #[hl,I,c,Xu a1,hc];show fy m j R (m.inv.aA.fresh B) #[_,J4,wZ _] _ _ (WN (d:=d3) I') rfl
     .show(j).elim
   |_=>show(j).elim
 |[],j=>show(j).elim
 |[.aw],j=>show(j).elim
 |[.bl _],j=>show(j).elim
 |[.int _],j=>show(j).elim
 |[.str _],j=>show(j).elim
 |[.tup _],j=>show(j).elim
 |[.cJ _],j=>show(j).elim
 |x::_::_,j=>cases x<;>show(j).elim
end
end L3
namespace L3
open PySem PySem.Spec PyProof.Rows L2 PySem.W
noncomputable def VL (x:IV)(h:IH):Option (Nat×Tw):=match x with|.ref i=>(match h[i]? with|some (.lst xs)=>M (i,xs)|_=>Z)|_=>Z
def HZ(e:VL x h=M (i,xs)):x=.ref i/\h[i]?=M (.lst xs):=by
 unfold VL at e;split at e
 .lia
 .cases e
def XM(x:IV)(as:Tw)(h:IH):Res IV:=match VL x h,as with|some (i,xs),[]=>(match xs[xs.length-1]? with|some y=>.ok y<|h.set i<|.lst xs.dropLast|none=>.stuck)|_,_=>.stuck
def XO(x:IV)(as:Tw)(h:IH):Res IV:=match VL x h,as with|some (i,xs),[.int k]=>(match JE xs with|some ns=>(match ns.findIdx? (· ==k)with|some j=>.ok .aw<|h.set i<|.lst<|xs.eraseIdx j|none=>.stuck)|none=>.stuck)|_,_=>.stuck
section
variable{J:aN}{X:Cx}
def WQ:oD J X "list" "list.pop" XM:=by
 intro V s U H Y bF h x xs v W Q E N k F K;unfold XM at K;split at K
 .rename_i i zs e;let#[rfl,D]:=HZ e;split at K
  .rename_i y S;let#[xv,k,a,rfl,ha]:=k;let#[O,R,B]:=F;cases (B);let#[C,m,j]:=N.at D ha;let#[z,P,I]:=j.get S;show A4 (Pj) N.inv k R #[a,C,z,rfl,rfl,m,by rw[j.length];show P,oE N K ha m (by rw[E4,E4,j.length];show j.take _) I]
  .show(K).elim
 .show(K).elim
def WT:oD J X "list" "list.remove" XO:=by
 intro V s U H Y bF h x xs v us Q E N S rs K;unfold XO at K;split at K
 .rename_i i zs k e;let#[rfl,D]:=HZ e;split at K
  .rename_i ns hb;split at K
   .rename_i j hj;let#[xv,S,a,rfl,ha]:=S;let#[O,rv,qs]:=rs;let#[w,rfl,qw]:=qs.bS;cases (qw);let#[u,rfl,t,rfl]:=Q3 rv;cases S;let#[ws,W,r1]:=N.at D ha;let#[z,B,n,r,hl,P]:=N.inv.gQ W;have I:=QI hb r1 r;have ln:=Xn I;let#[C,hp,R]:=ER.mp hj;have at_:∀m (hm:m<B.toArray.size),∃t,B.toArray[m]=.int (ns.getD m 0) t:=λm hm=>v8 I m _<|by simp at hm;simp[hm]
    refine rX F.slot_list_remove #[_,P,rfl] F.entry_list_remove (F.args_list_remove_2 _ _)
     (MeetsSeq.list_remove a B.toArray n (.int k t) (A9 k) (λy hy=>?_) j (by simp;show Zb C<|Zg ln.symm) ?_ (λm hm hmj=>?_)<|by rw[fN];show Zb (Zg hl.symm) z) #[P,?_]
    .let#[m,hm,rfl]:=Array.mem_iff_getElem.mp hy;let#[t',e]:=at_ m hm;rw[e];show MeetsSeq.EqGives.int _ _ _ _
    .let#[t',e]:=at_ j<|by simp;show Zb C<|Zg ln.symm
     rw[e];simpa[A9,Z0,C]using hp
    .let#[t',e]:=at_ m hm;rw[e];have:=R m hmj;have hm2:m<ns.length:=fV 06 06;simpa[A9,Z0,hm2]using this
    .show oE N K ha W (r1.erase _) rfl _ _ (N.inv.oq W P (by simp_all) (r.eraseIdx j) (by have:=Gb ws j;show Zb this z)) rfl
   .show(K).elim
  .show(K).elim
 .show(K).elim
end
section
variable{pr:ZW}{wd:bo}{A:bM}{E:aL}{s:Zy}
def WU{n:Nat}(B:A.handled=Z)(C:IsRange s.heap r a b c t u v)(hsmall:Builtin.Range.small a b c=Zl) (hn:FA a b c=n)(j:n<=2^24)(D:∀h' tk acc,(∀b o,s.heap.get? b=M o->h'.get? b=M o)->s.heap.objs.size<=h'.objs.size->ItemsOf (λi v=>∃t,v=.int (a+i*c) t) acc n->Q acc.toList {s with heap:=h',toks:=tk}):ZB (Z4 pr wd) A (collect<|.ref r) Q E s:=by
 unfold collect;calc Ze<|yT<|jQ Fg ?_;calc Ze<|pv ?_<|ZF _;calc Zp #[jR v5 _,jQ Fj ?_];rw[lR v5 _];refine wpAny_extend_range (R:=λr m=>match r with|.ok (.ret v)=>ZB (Z4 pr wd) A (match v with|.ref a=>(do match (<-load a).data with|.seq xs _=>pure xs.toList|_=>unsupported "internal:collect")|_=>unsupported "internal:collect") Q E m|.ok _=>False|.error e=>E e m) B (Zj _ C) hsmall hn j s.heap.objs.size _ 0 (Zx _ rfl) λh' tk acc F keep g k=>?_
 calc Ze<|wpAny_load g ?_;show Zp<|D h' tk acc (λb o e=>keep b o (Zw<|Z3 e)<|Zj _ e) (Zo<|Z3 g) k
end
section
variable{J:aN}{X:Cx}
def Yy(q:Str)(j:Nat)(js:Tp)(aa:A1)(m:E1):E1:=λU h=>(aa U h).bind λxs h1=>match xs,h1[j]? with|[.int n],M (.tab q')=>if q'=q/\0<=n/\n<4000 then(QK (λv h'=>m (M v::js.map λj=>(U[j]?).join) h') (aZ 0 n) [] h1).bind (XT<|aZ 0 n)else .stuck|_,_=>.stuck
theorem WV{k:Nat}{q x:Str}{P:Tj}{js:Tp}{j:Nat}{a I:Expr}{aa:A1}{m:E1}{params:tu}{scope:eO}{p p2 lp pos R kp kp2 cp:Pos}{ck:Nat}(hh:X.A.handled=Z)(hg:Gl X "sorted")(hm:X.mg "sorted"=Z)(g2:Gl X "range")(m2:X.mg "range"=Z)(ha:e9 J X [a] aa)(hs:ZZ [a] X.env=[(Zm,bN a X.env)])
  (hr:aY (k+3) X.A)(hcd:W.codeIn X.K X.env.code q=Zl)(hq:X.env.qual=q++".<locals>.")(B:QE X.mg X.base)(hx:Vk params=M x)(S:jY X.N X.env.scope.names x P js scope)
  (hb:∀f cd s' H',ar J (oJ X X.A.in1.in1 (x::P) q scope f cd s' H') I m):
  ar J X (.Call (.Name "sorted" p) [.Call (.Name "range" p2) [a] [] R] [#[M "key",.Lambda params I scope lp,kp],#[M "reverse",.Constant (.bool Zl) ck cp,kp2]] pos) (Yy q j js aa m):=λV s U H Y bF h Q E N K=>by
 have hcl:tq scope X.env=pure (cy X.env.cells scope.names []):=AW λy hm hk=>N.inv.ok.has y.1<|.inl<|S.free y hm hk
 calc jt<|Q2 N.inv hg hm rfl ?_;calc callWith_kw ?_ rfl rfl rfl rfl;calc zp ?_;calc jt<|Q2 N.inv g2 m2 boot_range ?_;calc qq ?_ hs rfl;refine(ha R).run N K λxs h1 us C H1 U1 N1 n1 r1 K1=>?_
 let#[O,rv,qs]:=r1;split at K1
 .rename_i n q' ej;split at K1
  .rename_i hc;let#[rfl,n0,n64]:=hc;let#[w,rfl,qw]:=qs.bS;cases (show w=.int n from qw);let#[u,rfl,t,rfl]:=Q3 rv;calc call_range_1<|zq ?_;have gr:(C.heap.push {cls:=.type "range",data:=.fields (bV [.int 0 C.toks,.int n t,.int 1<|C.toks+1])}).get? C.heap.objs.size=M {cls:=.type "range",data:=.fields (bV [.int 0 C.toks,.int n t,.int 1<|C.toks+1])}:=Zx _ rfl;have N1':=(N1.jZ (h':=C.heap.push {cls:=.type "range",data:=.fields (bV [.int 0 C.toks,.int n t,.int 1<|C.toks+1])}) (t':=C.toks+1+1) λb o e=>Zj _ e);have F1:aH X V H1 C.heap.objs.size:=N1.inv.dz (Zk _)<|N1.inv.aA.fresh<|Zk _;have N2:=N1'.hV gr F1 λv z=>by cases z
   have K2:=Kont.more (pl:=[(C.heap.objs.size,({cls:=.type "range",data:=.fields (bV [.int 0 C.toks,.int n t,.int 1<|C.toks+1])}:Obj))]) K1;refine vS<|Ze<|Hg N2 ej hcd hq (Hj hx) hcl B λf c pm ctv s3 H3 N3 n3 LC=>Ze<|pq<|Zp ?_
   calc vS<|Ze<|Zp<|Ze<|pq<|Zp<|zr ?_;have K3:=Kont.more (pl:=[(f,i6 q' params I scope (cy X.env.cells scope.names []) pm ctv c)])<|Kont.mono K2 n3;have pr:=N3.inv.pin (C.heap.objs.size,{cls:=.type "range",data:=.fields (bV [.int 0 C.toks,.int n t,.int 1<|C.toks+1])})<|Zt _<|iL _<|Zt _<|ZE.mpr rfl;calc call_function_entry_kw kind_sorted plain_sorted entry_sorted (ksk_s2 _ _ _) ?_;unfold iw.«sorted»;calc Ze (m:=checkCount "sorted" 1 1 _)<|Zp ?_;refine Ze<|WU (n:=n.toNat) hh pr.1 (small_one 01 01 05 05) ?_ 05 λh4 tk acc keep le F=>?_
   .rw[rangeSize_one];split<;>lia
   have are:d8 acc.toList ((cO n.toNat).map λk=>((k:Nat):Int)):=by
    refine He _ _ (by simp[F.1]) λi v hv=>?_
    let#[t,rfl]:=F.2 i v<|by simpa using hv
    have D:i<n.toNat:=by have:=(Zs.mp hv).1;simp![gH,F.1]at this;show this
    show#[t,by simp[Z0,D]]
   have hx':∀(t:Nat) v,acc.toList.reverse[t]?=M v->n-1-numOf v=(t:Int):=λt v ev=>by
    have lt:=(Zs.mp ev).1;rw[nR,gH,F.1]at lt;rw[List.getElem?_reverse (by rw[gH,F.1];show lt),gH,F.1]at ev;let#[t',rfl]:=F.2 _ v<|by simpa using ev
    change n-1-(0+((n.toNat-1-t:Nat):Int)*1)=t;lia
   calc UO (fx:=λv=>n-1-numOf v) (G:=λH=>QP H q'<|.ref c) (mk:=λv h'=>m (M v::js.map λj=>(bF[j]?).join) h') (ys:=aZ 0 n) (λa=>ksk_t2 f a Zl) (λa=>ksk_l2 a _ _) ?_ (λH H' e g=>g.mono e.cb) N3 LC keep le hx' (Xu are) (by rw[XQ];show wZ _) (by rw[XQ];simp;lia) (λbE s' q=>#[_,rfl,q]) K3;intro pl s4 H4 W4 h4 v u Q4 N4 g4 ru4 K4;have pf:=N4.inv.pin (f,i6 q' params I scope (cy X.env.cells scope.names []) pm ctv c)<|Zt _<|iL _<|Zt _<|ZE.mpr rfl;show Hh (A:=X.A.in1.in1) N.inv.ok.frames hr.in1.in1 N4 pf.1 g4 hx S (hb f<|.ref c) ru4 K4
  .show Zf K1
 .show Zf K1
end
end L3
namespace L3
open PySem PySem.Spec PyProof.Rows L2
end L3
namespace L4
open PySem PySem.Spec PyProof.Rows L2 L3
noncomputable def bW:E1:=λ_ _=>.stuck
noncomputable def oN:T1:=λ_ _=>.stuck
noncomputable def WW:O1:=λ_ _=>.stuck
noncomputable def stI:I1:=λ_ _=>.stuck
noncomputable def nA:G1:=λ_ _ _=>.stuck
noncomputable def cz:S1:=λ_ _=>.stuck
structure Fn where
 np:Nat
 bI:Tw
 run:Tw->IH->Res IV
abbrev _root_.Tg:=Option Fn
set_option genInjectivity false in
structure Pg where
 fn:Str->Tg
 cls:Str->Tg
 f6:Str->Str->Tg
 con:Str->Te
 nB:Str->Option (Str->Bool)
 fld:Str->Bool
 free:Str->Bool
 tabs:Str->Wz
 rz:Str->Bool
 nD:Str->Bool
 xi:Str->Option (Str->Wv)
 ne:Str->Bool
 xf:Str->Str->Bool
structure Sc where
 N:Tj
 names:Wi
 own:Bool
 q:Str
noncomputable def dY (x:Str):Tj->Wz|[]=>Z|y::r=>if y==x then M 0 else(dY x r).map (· + 1)
noncomputable def Sc.oO (S:Sc)(x:Str):Wz:=match S.names.lookup x with|some .local=>if x=="__debug__"||x=="__classdict__" then Z else dY x S.N|some .cell=>if x=="__debug__"||x=="__classdict__" then Z else dY x S.N|some .free=>if x=="__debug__"||x=="__classdict__" then Z else dY x S.N|_=>Z
noncomputable def Sc.gl (S:Sc)(x:Str):Bool:=S.names.lookup x==M .globalImplicit&&!(x=="__debug__")&&!(x=="__name__")
noncomputable def Sc.ic (S:Sc)(x:Str):Wz:=match S.names.lookup x with|some .local=>dY x S.N|some .cell=>if S.own then dY x S.N else Z|_=>Z
def H0:Const->E1|.int i=>eC<|.int i|.bool b=>eC<|.bl b|.none=>eC .aw|.str x=>eC<|.str x|_=>bW
def binI:tF->IV->IV->IH->Res IV|.Add=>Jr|.Sub=>JV|.Mult=>Qc|.FloorDiv=>JG|.Mod=>J9|.Pow=>JK|_=>λ_ _ _=>.stuck
def f7:CmpOp->IV->IV->IH->Res IV|.Lt=>jD|.LtE=>dr|.Gt=>fg|.GtE=>oz|.Eq=>eA|.NotEq=>eL|.Is=>qO|.IsNot=>Xh|_=>λ_ _ _=>.stuck
def wk:UnaryOp->IV->IH->Res IV|.Not=>YB bJ|.USub=>Vo|_=>λ_ _=>.stuck
def Bv:List E1->E1|[]=>bW|[a]=>a|a::b::r=>c9 a (Bv<|b::r) bJ
def qZ:List E1->E1|[]=>bW|[a]=>a|a::b::r=>sO a (qZ<|b::r) bJ
def Bw:List T1->T1|[]=>oN|[a]=>a|a::b::r=>Qs a<|Bw<|b::r
def rf:List T1->T1|[]=>oN|[a]=>a|a::b::r=>cE a<|rf<|b::r
def cL:List E1->A1|[]=>Je|a::r=>Jb a<|cL r
noncomputable def J1:Expr->Bool|.Starred .. =>Zm|_=>Zl
def XG:Expr->Bool|.Set .. =>Zm|_=>Zl
def Xs:Expr->Bool|.Slice .. =>Zm|_=>Zl
def QR:Expr->Bool|.ListComp .. =>Zm|.SetComp .. =>Zm|.DictComp .. =>Zm|_=>Zl
def V2:Expr->Bool|.Call (.Name ..) [] [] _=>Zm|_=>Zl
noncomputable def Fn.fill (f:Fn)(n:Nat):Option (Tw):=if n<=f.np/\f.np<=n+f.bI.length then M (f.bI.drop<|f.bI.length-(f.np-n))else Z
def Xl(f:Fn)(n:Nat)(a:A1):E1:=match f.fill n with|some d=>Jk f.run d a|none=>bW
def w9(c:Str)(f:Fn)(n:Nat)(a:A1):E1:=match f.fill (n+1)with|some d=>Qx c f.run d a|none=>bW
def uK(x:Str):Tw->IH->Res IV:=if x=="len" then aP aT else if x=="all" then aP allI else if x=="sum" then aP cW else if x=="sorted" then aP XU else if x=="min" then aP XF else if x=="max" then aP XE else λ_ _=>.stuck
def uL(x:Str):Tw->IH->Res IV:=if x=="list" then aP Vl else if x=="tuple" then aP VZ else if x=="str" then aP hi else λ_ _=>.stuck
noncomputable def Bx (x:Str):Bool:=x=="len"||x=="all"||x=="sum"||x=="sorted"||x=="min"||x=="max"
noncomputable def By (x:Str):Bool:=x=="list"||x=="tuple"||x=="str"
def xa(P:Pg)(x:Str):Option (Ty->Wv):=match P.nB x with
 |some g=>M λt=>match t with|.ins c=>M (g c)|.exc _=>Z|_=>M Zm
 |none=>if P.free x then(if x=="int" then M wQ else if x=="bool" then M wR else if x=="str" then M AV else if x=="list" then M (if P.ne "Work" then Bh else VC)else if x=="tuple" then M Xx else Z)else Z
def BA(o:Option<|Ty->Wv)(e:E1):E1:=match o with|some ans=>cw ans e|none=>bW
def dN(T:String)(m:Str)(n:Nat):Option (IV->Tw->IH->Res IV):=if T=="list"&&m=="append"&&n==1 then M Xg else if T=="list"&&m=="extend"&&n==1 then M X9 else if T=="list"&&m=="pop"&&n==0 then M XM else if T=="list"&&m=="remove"&&n==1 then M XO else if T=="str"&&m=="join"&&n==1 then M XB else if T=="dict"&&m=="setdefault"&&n==2 then M VT else Z
def JX(P:Pg)(m:Str)(n:Nat):Str->Option ((Tw->IH->Res IV)×Tw):=λc=>match P.f6 c m with|some f=>(match f.fill (n+1)with|some d=>M (f.run,d)|none=>Z)|none=>Z
def VI(v:IV)(h:IH):Bool:=match v with|.ref i=>(match h[i]? with|some (.ins ..)=>Zl|_=>Zm)|_=>Zm
def pZ(v:IV)(h:IH):String:=match v with|.str _=>"str"|.cJ _=>"list"|.ref i=>(match h[i]? with|some (.lst _)=>"list"|some (.aV _)=>"dict"|_=>"")|_=>""
def Ju(P:Pg)(m:Str)(n:Nat)(o:E1)(a:A1):E1:=λU h=>match o U h with|.ok v h1=>if VI v h1 then wG m (JX P m n) o a U h else(match dN (pZ v h1) m n with|some g=>qQ (pZ v h1) g o a U h|none=>.stuck)|_=>.stuck
def Ia(n:Nat)(a:A1):I1:=match n with|1=>dM Qh a|2=>stI|_=>stI
def oP:List G1->Tw->aE->IH->cf|[]=>gN|g::r=>gC g<|oP r
noncomputable def V1 (sc:eO):Tj:=sc.names.filterMap λx=>if x.2==.local&&!(x.1==(".0":Str))then M x.1 else Z
noncomputable def Q6 (sc:eO):Tj:=sc.names.filterMap λx=>if x.2==.free then M x.1 else Z
def eB(S:Sc)(sc:eO):Tp:=(Q6 sc).map λx=>(dY x S.N).getD 0
def Sc.comp(S:Sc)(sc:eO):Sc where
 N:=V1 sc++Q6 sc
 names:=sc.names.map λx=>if x.2==.free&&S.names.lookup x.1==M .cell then(x.1,.cell)else x
 own:=Zm
 q:=""
def Sc.lam(S:Sc)(x:Str)(sc:eO):Sc where
 N:=x::Q6 sc
 names:=sc.names
 own:=Zm
 q:=""
def QL(S:Sc)(x:Str)(sc:eO):Bool:=sc.kind==.function&&!sc.isCoroutine&&!sc.isGenerator&&sc.names.all (λy=>!(y.2==.cell))&&sc.names.lookup x==M .local&&sc.names.all (λy=>!(y.2==.free)||S.names.lookup y.1==M .cell) && (Q6 sc).all (λy=>decide (S.N[(dY y S.N).getD 0]?=M y)&&sc.names.lookup y==M .free)&&decide (x::Q6 sc).Nodup
def Sc.mw(S:Sc):eO:={kind:=.function,names:=S.names,isGenerator:=Zm,isCoroutine:=Zm}
noncomputable def BB:Expr->Bool|.Name x _=>x=="last_come"||x=="tops"||x=="last"||x=="_law_last"||x=="_law_last_here"||x=="_law_lows_here"|_=>Zm
def BC(a:Expr):IV->IV->IH->Res IV:=if BB a then VO else Jh
def BD:Expr->Bool|.Name x _=>x=="_law_word_here"||x=="_law_name"|.Subscript .. =>Zl|_=>Zm
def BE(a:Expr):IV->Wy->Wy->IH->Res IV:=if BD a then pX else l7
def kH(ne:Str->Bool)(o:CmpOp)(b:Expr):IV->IV->IH->Res IV:=match o with|.In=>if BB b then hJ else λ_ _ _=>.stuck|o=>f7 o
def rg(a:Expr)(o i:E1):G1:=if BB a then hU o i else nA
def xg:Expr->Wu|.Call (.Name y _) [e] [] _=>if y=="set"&&J1 e then M e else Z|_=>Z
def xh:Expr->Wu|.Call (.Name y _) [e] [] _=>if y=="range"&&J1 e then M e else Z|_=>Z
def BF:Expr->Bool|.Call (.Name y _) _ _ _=>y=="ceilings"|_=>Zm
def BG(P:Pg)(S:Sc)(x:Str)(f:Expr->E1):Td->E1|[a,b]=>if x=="max" then aR (l8 jG) (Jb (f a)<|Jb (f b) Je)else if x=="min" then aR (l8 oG) (Jb (f a)<|Jb (f b) Je)else(match b with|.Name y _=>if x=="isinstance"&&S.gl y then BA (xa P y) (f a)else bW|_=>bW)|[a,b,c,d]=>if x=="max" then aR Y7 (Jb (f a)<|Jb (f b)<|Jb (f c)<|Jb (f d) Je)else bW|[a]=>(match (if x=="len"&&S.gl "set"&&P.free "set" then xg a else Z)with|some e=>Yx<|Jb (f e) Je|none=>match (if x=="list"&&S.gl "range"&&P.free "range" then xh a else Z)with|some _=>bW|none=>if x=="len"&&BF a then aR (aP Xp) (Jb (f a) Je)else if Bx x then aR (uK x) (Jb (f a) Je)else if By x then aR (uL x) (Jb (f a) Je)else bW)|_=>bW
def Ib:Td->Wu|[a]=>xg a|_=>Z
def xj(P:Pg)(S:Sc)(x:Str)(f:Expr->E1)(args:Td):E1:=match (if x=="sorted"&&S.gl "set"&&P.free "set" then Ib args else Z)with|some e=>Yz<|Jb (f e) Je|none=>BG P S x f args
def Ic:Expr->Bool|.Constant (.bool Zl) _ _=>Zl|_=>Zm
def BH(P:Pg)(S:Sc)(f:Sc->Expr->E1)(x:Str)(a:Expr)(k:Str)(ps:tu)(body:Expr)(sc:eO)(k2:Str)(d:Expr):E1:=match xh a,Vk ps,P.tabs S.q with|some e,M y,M j=>if x=="sorted"&&k=="key"&&k2=="reverse"&&Ic d&&S.gl x&&P.free x&&S.gl "range"&&P.free "range"&&S.own&&QL S y sc then Yy S.q j (eB S sc) (Jb (f S e) Je) (f (S.lam y sc) body)else bW|_,_,_=>bW
def uM(P:Pg)(S:Sc)(f:Sc->Expr->E1)(x:Str)(a:Expr)(k:Str):Expr->E1|.Lambda ps body sc _=>(match Vk ps,P.tabs S.q with|some y,M j=>if x=="min"&&k=="key"&&S.gl x&&P.free x&&J1 a&&S.own&&QL S y sc then X7 j0 S.q j (eB S sc) (Jb (f S a) Je) (f (S.lam y sc) body)else bW|_,_=>bW)|_=>bW
def BI(P:Pg)(S:Sc)(f:Sc->Expr->E1)(x:Str)(args:Td)(kws:Tn):E1:=match args,kws with|[a],[⟨M k,d,_⟩]=>if x=="max"&&k=="default"&&S.gl x&&P.free x&&J1 a then Vx (Jb (f S a) Je) (f S d)else uM P S f x a k d|[a],[⟨M k,.Lambda ps body sc _,_⟩,⟨M k2,d,_⟩]=>BH P S f x a k ps body sc k2 d|_,_=>bW
def xm(P:Pg)(S:Sc)(m:Str):Expr->Tg|.Name x _=>if m=="__init__"&&S.gl x&&P.nD x then P.cls x else Z|_=>Z
def BJ(P:Pg)(m:Str)(n:Nat)(b:Tg)(o:E1)(a:A1):E1:=match b with|some f=>if n=0 then bW else Xl f n a|none=>Ju P m n o a
def BK(ifs:Td)(f:Expr->T1)(m:T1->E1):E1:=match ifs with|[]=>m J2|[c]=>m<|f c|_=>bW
section
mutual
def ev(P:Pg):Nat->Sc->Expr->E1|0,_,_=>bW|n+1,S,e=>match e with
  |.Constant c _ _=>H0 c
  |.Name x _=>(match S.oO x with|some i=>Ja i|none=>if S.gl x then(match P.con x with|some v=>eC v|none=>bW)else bW)
  |.BinOp a op b _=>Jc (binI op) (ev P n S a)<|ev P n S b
  |.UnaryOp op a _=>lg (wk op)<|ev P n S a
  |.BoolOp .And O _=>Bv<|O.map<|ev P n S
  |.BoolOp .Or O _=>qZ<|O.map<|ev P n S
  |.IfExp t a b _=>oy (my P n S t) (ev P n S a)<|ev P n S b
  |.Compare a [o] [b] _=>if rQ o b then bW else Jc (kH P.ne o b) (ev P n S a) (ev P n S b)
  |.Compare a [o,o'] [b,c] _=>if r7 [o,o'] [b,c]then bW else JO (f7 o) (f7 o') (ev P n S a) (ev P n S b) (ev P n S c)
  |.Tuple es _ _=>if es.all J1 then bO (cL<|es.map<|ev P n S)else bW
  |.Dict [] [] _=>X6
  |.List es _=>if es.all J1 then J0 (cL<|es.map<|ev P n S)else bW
  |.Subscript a (.Slice lo D Z _) _=>lu (BE a) (ev P n S a) (BL P n S lo)<|BL P n S D
  |.Subscript a i _=>if Xs i then Jc (BC a) (ev P n S a) (ev P n S i)else bW
  |.Attribute o f _=>if V2 o&&P.fld f then Jm f (ev P n S o)else bW
  |.Call (.Name x _) args [] _=>if S.gl x&&args.all J1 then BM P n S x args else bW
  |.Call (.Name x _) args (kw::kws) _=>BI P S (λS e=>ev P n S e) x args<|kw::kws
  |.Call (.Attribute o m ap) args [] p=>if args.all J1&&V2 o&&(ap.endLine==p.line)&&decide (args.length<30)then BJ P m args.length (xm P S m o) (ev P n S o) (cL<|args.map<|ev P n S)else bW
  |.ListComp elt [⟨tg,iter,ifs,as⟩] sc _=>
   if as=0/\XG iter=Zl/\QG S.N (V1 sc) (Q6 sc) (eB S sc) S.mw sc=Zl then BK ifs (my P n<|S.comp sc) λmt=>Jv (sQ P n S tg iter) (V1 sc).length (eB S sc) (nE P n (S.comp sc) tg) mt<|ev P n (S.comp sc) elt
   else bW
  |_=>bW
def my(P:Pg):Nat->Sc->Expr->T1|0,_,_=>oN|n+1,S,e=>match e with|.UnaryOp .Not a _=>J7<|my P n S a|.BoolOp .And O _=>Bw<|O.map<|my P n S|.BoolOp .Or O _=>rf<|O.map<|my P n S|.IfExp .. =>oN|.Compare a [o] [b] _=>if rQ o b then oN else Ji aM (Jc (kH P.ne o b) (ev P n S a)<|ev P n S b)|.Compare a [o,o'] [b,c] _=>if r7 [o,o'] [b,c]then oN else Ji aM (JO (f7 o) (f7 o') (ev P n S a) (ev P n S b)<|ev P n S c)|.Compare .. =>oN|e=>Ji bJ<|ev P n S e
def BL(P:Pg):Nat->Sc->Wu->O1|0,_,_=>WW|_+1,_,Z=>V3|n+1,S,M e=>V4<|ev P n S e
def BM(P:Pg):Nat->Sc->Str->Td->E1|0,_,_,_=>bW|n+1,S,x,args=>match P.fn x with|some f=>Xl f args.length<|cL<|args.map<|ev P n S|none=>match P.cls x with|some f=>w9 x f args.length<|cL<|args.map<|ev P n S|none=>if P.free x then xj P S x (ev P n S) args else bW
def sQ(P:Pg):Nat->Sc->Expr->Expr->I1|0,_,_,_=>stI|n+1,S,tg,e=>match e with
  |.Call (.Name x _) args [] _=>
   if S.gl x&&P.free x&&args.all J1&&(x=="range")then Ia args.length (cL<|args.map<|ev P n S)
   else if S.gl x&&P.free x&&args.all J1&&(x=="enumerate")then(match tg,args with|.Tuple ..,[a]=>dM QJ<|Jb (ev P n S a) Je|_,_=>stI)
   else Jq (ev P n S e)
  |e=>Jq<|ev P n S e
def nE(P:Pg):Nat->Sc->Expr->G1|0,_,_=>nA|n+1,S,e=>match e with|.Name x _=>(match S.ic x with|some i=>aF i|none=>nA)|.Tuple es _ _=>if es.all J1 then iF es.length (oP<|es.map<|nE P n S)else nA|.Subscript o i _=>if Xs i then rg o (ev P n S o) (ev P n S i)else nA|_=>nA
end
end
noncomputable def Vr (t:T1)(b:S1):Nat->S1|0,_,_=>.stuck|n+1,U,h=>match t U h with|.ok c h1=>if c then(match b U h1 with|.next U2 h2=>Vr t b n U2 h2|.cont U2 h2=>Vr t b n U2 h2|.brk U2 h2=>.next U2 h2|.ret v h2=>.ret v h2|.exc m U2 h2=>(match h2[m]? with|some (.exc _ _)=>.exc m U2 h2|_=>.stuck)|_=>.stuck)else .next U h1|_=>.stuck
@[irreducible] def Xa:Nat:=1000000
def BN(o:Bool)(t:T1)(b:S1):S1:=match o with|true=>Vr t b Xa|false=>cz
def V5(t:T1)(b:S1):S1:=BN Zl t b
theorem Ie(t)(b):V5 t b=Vr t b Xa:=rfl
noncomputable def nF:tF->IV->IV->IH->Res IV|.Add,.int i,.int j,h=>.ok (.int<|i+j) h|_,_,_,_=>.stuck
def i8(op:tF)(i:Nat)(e:E1):S1:=λU h=>rS U (Ja i U h) λx h1=>rS U (e U h1) λy h2=>rS U (nF op x y h2) λz h3=>.next (U.set i<|M z) h3
def XR(op:tF)(f:Str)(o e:E1):S1:=λU h=>rS U (o U h) λov h1=>match ov with|.ref i=>(match h1[i]? with|some (.ins _ fs)=>(match fs.lookup f with|some x=>rS U (e U h1) λy h2=>rS U (nF op x y h2) λz h3=>(match h3[i]? with|some (.ins c gs)=>if gs.length<1000 then .next U (h3.set i<|.ins c<|bG f z gs)else .stuck|_=>.stuck)|none=>.stuck)|_=>.stuck)|_=>.stuck
def xn:IV->IV->IH->Res IV
 |.ref i,.int k,h=>match h[i]? with
  |some (.lst xs)=>(match bq xs k with
   |some v=>if 0<=k then .ok v h else .stuck
   |none=>.stuck)
  |_=>.stuck
 |_,_,_=>.stuck
def XS(op:tF)(o k e:E1):S1:=λU h=>rS U (o U h) λov h1=>rS U (k U h1) λkv h2=>rS U (xn ov kv h2) λx h3=>rS U (e U h3) λy h4=>rS U (nF op x y h4) λz h5=>oF ov kv z U h5
def fB:List S1->S1|[]=>Jp|[a]=>a|a::b::r=>Jg a<|fB<|b::r
def BO:Expr->Bool|.Tuple .. =>Zm|_=>Zl
def xo:Expr->Bool|.Tuple .. =>Zl|_=>Zm
def mB:Expr->Bool|.ListComp .. =>Zl|_=>Zm
def xp:Expr->Bool|.Subscript .. =>Zl|_=>Zm
abbrev Xi:=Str->Option (Str->Wv)
section
def hv(xi:Xi)(xf:Str->Str->Bool)(fr:Str->Bool):Nat->Bool->Sc->Expr->E1|0,_,_,_=>bW|n+1,w,S,e=>match e with|.Constant c _ _=>H0 c|_=>bW
def hx(xi:Xi)(xf:Str->Str->Bool)(fr:Str->Bool)(w:Bool)(S:Sc):Nat->gk->S1|0,_=>cz|n+1,st=>match st with|.Assign [.Name x _] e _=>if QR e then(match S.ic x with|some i=>Jl i<|hv xi xf fr n w S e|none=>cz)else cz|_=>cz
def BP(S:Sc):Ww->Option (Wz)|none=>M Z|some x=>if S.names.lookup x==M .local then(dY x S.N).map M else Z
def Ig(P:Pg)(S:Sc)(n:Nat)(sl:Wz)(suite:Tl):S1:=fB<|suite.map<|hx P.xi P.xf P.free Zm S n
def BQ(P:Pg)(S:Sc)(n:Nat):EL->Option Hm|.ExceptHandler (M (.Name bE _)) nm (b::suite) _=>if S.gl bE then(match P.xi bE,BP S nm with|some g,M sl=>M (g,sl,Ig P S n sl<|b::suite)|_,_=>Z)else Z|_=>Z
def mC(P:Pg)(S:Sc)(n:Nat):Tr->Option (Tq)|[]=>M []|h::r=>match BQ P S n h,mC P S n r with|some q,M l=>M<|q::l|_,_=>Z
end
def mE(K:W.Frag)(mg:Str->Ta)(xi:Xi)(xf:Str->Str->Bool):Prop:=(∀bE g,xi bE=M g->∃v,(mg bE=M v\/(mg bE=Z/\kT bE=M v)) /\ ∀c C b,g c=M b->W.nsIn K ZJ c=M (M<|.ref C)->nu K C/\W.kitOne K (.ref C) v=M b/\W.exmOne K (.ref C) v=M b) /\ ∀f c C,xf f c=Zl->W.nsIn K ZJ c=M (M<|.ref C)->qU K C f/\nu K C/\W.findIn K (.ref C) f=M Z
section
def BR(P:Pg)(S:Sc)(m:Expr->E1)(exc cause:Wu):S1:=match exc,cause with|some (.Call (.Name x _) [e] [] _),Z=>if S.gl x&&P.rz x&&J1 e then Vp x (Jb (m e) Je)else cz|_,_=>cz
def rh(P:Pg)(S:Sc)(n:Nat)(m:gk->S1)(body:Tl)(hs:Tr)(o f:Tl):S1:=match hs,o,f with|h::r,[],[]=>if S.own then(match mC P S n (h::r)with|some ms=>kE (fB<|body.map m) ms|none=>cz)else cz|_,_,_=>cz
end
def BS(P:Pg)(f:Str)(o e:E1):S1:=if P.fld f then JL f o e else cz
section
def ex(P:Pg):Nat->Sc->gk->S1|0,_,_=>cz|n+1,S,st=>match st with|.Pass _=>Gu|.Break _=>YE|.Continue _=>Gv|.Expr e _=>if QR e then JH (ev P n S e)else cz|.Return Z _=>Gx|.Return (M e) _=>Jj<|ev P n S e|.If c a b _=>aU (my P n S c) (fB<|a.map<|ex P n S)<|fB<|b.map<|ex P n S|.While c a [] _=>BN S.own (my P n S c)<|fB<|a.map<|ex P n S|.For tg it a [] _=>if XG it&&S.own then bP (sQ P n S tg it) (nE P n S tg) (fB<|a.map<|ex P n S)else cz|.Assign [.Name x _] e _=>if QR e||mB e then(match S.ic x with|some i=>Jl i<|ev P n S e|none=>cz)else cz|.Assign [.Attribute o f _] e _=>if QR e||mB e then BS P f (ev P n S o) (ev P n S e)else cz|.Assign [tg] e _=>if QR e&&((xo tg&&BO e)||xp tg)then ei (ev P n S e) (nE P n S tg)else cz|.Raise exc cause _=>BR P S (ev P n S) exc cause|.Try body hs o f _=>rh P S n (ex P n S) body hs o f|.AugAssign (.Name x _) op e _=>(match S.ic x with|some i=>i8 op i<|ev P n S e|none=>cz)|.AugAssign (.Attribute o f _) op e _=>if P.fld f then XR op f (ev P n S o) (ev P n S e)else cz|.AugAssign (.Subscript o k _) op e _=>if Xs k then XS op (ev P n S o) (ev P n S k) (ev P n S e)else cz|_=>cz
end
structure sR(J:aN)(prog:ZW)(w:bo)(K:W.Frag)(mg:Str->Ta)(base:bp)(k:Nat)(f:Fn)(fa:ZD)(fd:j5)(ps:Tj):Prop where
 len:ps.length=f.np
 ok:cq prog w K mg base (fR prog w) k fa fd ps<|kz J K ps f.run
 dv:∀j,j<=f.bI.length->∃ds,Qj K fd ps ds/\ds.length=f.bI.length-j/\∃O,Vals O ds/\∀Y H,aC K Y H (f.bI.drop j) O
structure uN(J:aN)(k:Nat)(P:Pg)(prog:ZW)(w:bo)(K:W.Frag)(mg:Str->Ta)(base:bp):Prop where
 fn:∀x f,P.fn x=M f->∃fa fd ps,mg x=M (.ref fa)/\W.keepIn K (.ref fa)=Zl/\sR J prog w K mg base k f fa fd ps
 cls:∀x f,P.cls x=M f->∃C fa fd ps,mg x=M (.ref C)/\J x=M C/\Mk K C fa/\sR J prog w K mg base k f fa fd ps
 f6:∀c m f,P.f6 c m=M f->∃C fa fd ps,J c=M C/\nk K C/\Meth K C m fa/\sR J prog w K mg base k f fa fd ps
 con:∀x v,P.con x=M v->∃u y,mg x=M u/\RelV y u/\∀Y H,RV K Y H v y
 nB:∀bE g,P.nB bE=M g->∃c,mg bE=M c/\eR J K c λt=>match t with|.ins c=>M (g c)|.exc _=>Z|_=>M Zm
 fld:∀f,P.fld f=Zl->Yo J K f
 free:∀x,P.free x=Zl->mg x=Z
 blt:∀q j,P.tabs q=M j->QE mg base
 rz:∀x,P.rz x=Zl->∃C,mg x=M (.ref C)/\W.nsIn K ZJ x=M (M<|.ref C)/\hX K C
 xi:mE K mg P.xi P.xf
 nD:∀x,P.nD x=Zl->∃C,mg x=M (.ref C)/\kG K C
 ne:∀c,P.ne c=Zl->∃C,J c=M C/\iZ K C/\W.kitOne K (.ref C) (.type "list")=M Zm
structure Good(J:aN)(k:Nat)(P:Pg)(S:Sc)(X:Cx):Prop where
 n:X.N=S.N
 sc:X.env.scope.names=S.names
 nd:S.N.Nodup
 fk:X.env.scope.kind=.function
 calm:X.calm=Zl
 room:aY (k+1) X.A
 st:S.own=Zl->∀x,X.fn x=Zl
 pg:uN J k P X.prog X.w X.K X.mg X.base
 code:S.own=Zl->W.codeIn X.K X.env.code S.q=Zl/\X.env.qual=S.q++".<locals>."
 j1:S.own=Zl->aY (k+3) X.A
 top:S.own=Zl->X.stack=X.env::X.outer/\X.env.frame=M X.env.locals
section
variable{J:aN}{k:Nat}{P:Pg}{S:Sc}{X:Cx}{α β:Type}{R:ow α β}
theorem Jn:PX J X R t (λ_ _=>.stuck):=λ_ _ _ _ _ _ _ _ _ _ K=>(K).elim
def WX(k:∀bF h,∃j,m bF h=j bF h/\PX J X R t j):PX J X R t m:=by intro V s U H Y bF h Q E N K;let#[j,e,p]:=k bF h;rw[e]at K;show p V s U H Y bF h Q E N K
theorem YC:jX J X tg e stI:=λ_ _ _ _ _ _ _ _ _ _ K=>(K).elim
theorem XJ:jE J X e nA:=λ_ _ _ _ _ _ _ _ _ _ _ _ _ K=>(K).elim
theorem JB:AD J X t cz:=λ_ _ _ _ _ _ _ _ _ _ K=>(K).elim
theorem Y5:∀{l:Tj}{i:Nat},dY x l=M i->l[i]?=M x
 |[],_,h=>by cases h
 |y::r,i,h=>by
  unfold dY at h;split at h
  .rename_i e;cases h;simp[beq_iff_eq.mp e]
  .let#[j,k,rfl]:=ZL.mp h;simpa using Y5 k
def Good.kind(G:Good J k P S X)(x):X.env.kindOf x=S.names.lookup x:=by change X.env.scope.names.lookup x=_;rw[G.sc]
def Good.oO(G:Good J k P S X)(h:S.oO x=M i):X.N[i]?=M x/\qG X.env.scope x/\(x==("__debug__":Str))=Zm/\(x==("__classdict__":Str))=Zm:=by
 unfold Sc.oO at h;have fin:∀{o:pj},(o=.local\/o=.cell\/o=.free)->S.names.lookup x=M o->(if (x==("__debug__":Str)||x==("__classdict__":Str))=Zl then Z else dY x S.N)=M i ->X.N[i]?=M x/\qG X.env.scope x/\(x==("__debug__":Str))=Zm/\(x==("__classdict__":Str))=Zm:=λm e h=>by
  split at h
  .cases h
  .rename_i hd;have j:=tP.mpr hd;rw[Bool.or_eq_false_iff]at j;calc#[by rw[G.n];show Y5 h,?_,j.1,j.2];unfold qG;rw[G.sc,e];rcases m with rfl|rfl|rfl
   .show .inl rfl
   .show .inr<|.inl rfl
   .show .inr<|.inr rfl
 cases e:S.names.lookup x with|none=>rw[e]at h;cases h|some o=>rw[e]at h;cases o with| «local» =>show fin (.inl rfl) e h|cell=>show fin (.inr<|.inl rfl) e h|free=>show fin (.inr<|.inr rfl) e h|_=>cases h
def Good.gl(G:Good J k P S X)(h:S.gl x=Zl):Gl X x/\(x==("__debug__":Str))=Zm/\x≠"__name__":=by
 unfold Sc.gl at h;simp![Zv,beq_iff_eq,sA]at h;refine#[?_,h.1.2,λe=>?_]
 .change X.env.kindOf x=_;rw[G.kind];show h.1.1
 .lia
def Good.ic(G:Good J k P S X)(h:S.ic x=M i):X.N[i]?=M x/\Loc X.env.scope x/\(X.fn x=Zl\/X.env.scope.names.lookup x=M .local):=by
 unfold Sc.ic at h;unfold L2.Loc;rw[G.sc];cases e:S.names.lookup x with|none=>rw[e]at h;cases h|some o=>
  rw[e]at h;cases o with
  | «local» =>show#[by rw[G.n];show Y5 h,.inl rfl,.inr rfl]
  |cell=>
   dsimp only at h;split at h
   .rename_i j;show#[by rw[G.n];show Y5 h,.inr rfl,.inl<|G.st j x]
   .cases h
  |_=>cases h
def Good.nodup(G:Good J k P S X):X.N.Nodup:=by rw[G.n];show G.nd
def Jy(h:J1 a=Zl):ZZ (a::es) env=(Zm,bN a env)::ZZ es env:=by cases a<;>first|rfl|cases h
theorem VV:∀{es:Td},es.all J1=Zl->(eF pos<|ZZ es env).any (·.1)=Zm|[],_=>rfl|a::es,h=>by simp![fY,Zv]at h;rw[Jy h.1];change(Zm||(eF pos (ZZ es env)).any (·.1))=Zm;rw[VV h.2]<;>rfl
theorem BU:∀{es:Td},es.all J1=Zl->(eF pos<|ZZ es env).all (λx=>!x.1)=Zl|[],_=>rfl|a::es,h=>by simp![fY,Zv]at h;rw[Jy h.1];change(Zl&&(eF pos<|ZZ es env).all (λx=>!x.1))=Zl;rw[BU h.2]<;>rfl
def WY(ha:es.all J1=Zl)(hn:es.length<30):((eF pos<|ZZ es env).all (λx=>!x.1)&&(qg pos<|qe [] env).all (λx=>x.1.isSome) && decide (es.length+([]:Tn).length+(if ([]:Tn).isEmpty then 0 else 1)<30))=Zl:=by change((eF pos<|ZZ es env).all (λx=>!x.1)&&Zl&&decide (es.length+0+0<30))=Zl;rw[BU ha];simpa using hn
theorem Yq:∀(l:List E1),oC l.length (cL l)|[]=>RY|_::r=>RZ<|Yq r
theorem Vv:∀{es:Td},es.all J1=Zl->(∀e,ar J X e<|f e)->e9 J X es (cL<|es.map f)|[],_,_=>Q5|a::es,h,hf=>by simp![fY,Zv]at h;show Qk (hf a) (Vv h.2 hf)<|Jy h.1
theorem Ih(j:∀e,ar J X e<|f e):∀(O:Td),ar J X (.BoolOp .And O pos) (Bv<|O.map f)|[]=>Jn|[a]=>Gr<|j a|a::b::r=>PM YM (j a)<|Ih j<|b::r
theorem Ii(j:∀e,ar J X e<|f e):∀(O:Td),ar J X (.BoolOp .Or O pos) (qZ<|O.map f)|[]=>Jn|[a]=>Gr<|j a|a::b::r=>Aw YM (j a)<|Ii j<|b::r
theorem Ij(j:∀e,gX J X e<|f e):∀(O:Td),nq J X (.BoolOp .And O pos) (Bw<|O.map f)|[]=>λ_=>Jn|[a]=>PG<|j a|a::b::r=>PJ (j a)<|Ij j<|b::r
theorem Il(j:∀e,gX J X e<|f e):∀(O:Td),nq J X (.BoolOp .Or O pos) (rf<|O.map f)|[]=>λ_=>Jn|[a]=>PH<|j a|a::b::r=>PK (j a)<|Il j<|b::r
theorem Im:∀{es:Td},es.all J1=Zl->(∀e,jE J X e<|f e)->lY J X es (oP<|es.map f)|[],_,_=>Rn|a::es,h,hf=>by simp![fY,Zv]at h;calc Ro (hf a) (Im h.2 hf) ?_;cases a<;>first|rfl|show absurd h.1 Zz
theorem Io:∀{es:Td},es.all J1=Zl->(iK es env).length=es.length
 |[],_=>rfl
 |a::es,h=>by
  simp![fY,Zv]at h;have:iK (a::es) env=(Zm,nP a env)::iK es env:=by cases a<;>first|rfl|show absurd h.1 Zz
  rw[this,ji,ji,Io h.2]
theorem Ip:∀{es:Td},es.all J1=Zl->(iK es env).findIdx? (·.1)=Z
 |[],_=>rfl
 |a::es,h=>by
  simp![fY,Zv]at h;have:iK (a::es) env=(Zm,nP a env)::iK es env:=by cases a<;>first|rfl|show absurd h.1 Zz
  rw[this,List.findIdx?_cons,Ip h.2];rfl
def WZ(op):dW J X (fW op) (binI op):=by
 cases op with
 |Add=>show PS
 |Sub=>show PT
 |Mult=>show SY
 |FloorDiv=>show PY
 |Mod=>show PZ
 |Pow=>show P1
 |_=>show λ_ _ _ _ _ _ _ _ _ _ _ _ _ _ _ _ K=>(K).elim
def YA(j:X.A.units+64<cLine)(op):dW J X (eY op) (f7 op):=by cases op with|Lt=>show Ax|LtE=>show Ay|Gt=>show Az|GtE=>show AA|Eq=>show AR j|NotEq=>show AS j|Is=>show AU|IsNot=>show R7|_=>show λ_ _ _ _ _ _ _ _ _ _ _ _ _ _ _ _ K=>(K).elim
def Iq(j:X.A.units+64<cLine)(op)(b):dW J X (eY op) (kH ne op b):=by
 unfold kH;split
 .split
  .show S5
  .show λ_ _ _ _ _ _ _ _ _ _ _ _ _ _ _ _ K=>(K).elim
 .show YA j op
def W0(a):wK J X (BE a):=by
 unfold BE;split
 .show T2
 .show uD
def W5(a):wI J X (BC a):=by
 unfold BC;split
 .show S4
 .show AO
def BV(op):wD J X (unaryOp op) (wk op):=by cases op with|Not=>show PN YM|USub=>show P4|_=>show λ_ _ _ _ _ _ _ _ _ _ _ _ _ K=>(K).elim
def xq(h:V2 o=Zl):tp o m env w=w:=by
 cases o with
 |Call f j k p=>
  cases f with
  |Name x q=>
   cases j with
   |nil=>cases k with|nil=>cases h|cons _ _=>rfl
   |cons _ _=>rfl
  |_=>rfl
 |_=>rfl
def Y2(h:XG e=Zl)(x):tj e env x=pure x:=by cases e<;>first|rfl|cases h
def YL(h:QR e=Zl):qf e t l env=pure Zm:=by cases e<;>first|rfl|cases h
theorem W8(h:Xs i=Zl):F3 i:=λ_ _=>by cases i<;>first|rfl|cases h
def BW(B:V2 o=Zl)(hs:es.all J1=Zl)(hl:(ap.endLine==pos.line)=Zl)(hn:es.length<30):bN (.Call (.Attribute o m ap) es [] pos) env=(do
   let ov<-bN o env
   sd ap.atName
   let (f,first)<-lH [ov] (rY ov m (do return(<-importBound o env).getD Zl))
   callWith pos f first (eF pos<|ZZ es env) (qg pos<|qe [] env)):=by
 have j:methodCallForm (es.length+([]:Tn).length) (eF pos<|ZZ es env) (qg pos<|qe [] env)=Zl:=by change((eF pos<|ZZ es env).all (λx=>!x.1)&&Zl&&decide (es.length+0+0<30))=Zl;rw[BU hs];simpa using hn
 have k:methodCallPos Zl o env ap pos=pure pos:=by unfold methodCallPos;simp[hl]
 rw[arm_eval_Call,xq B];unfold methodCall;rw[j,k];rfl
end
section
variable{J:aN}{k:Nat}{P:Pg}{S:Sc}{X:Cx}
def Ir(G:Good J k P S X)(N0 l c)(js)(sc):QG N0 l c js X.env.scope sc=QG N0 l c js S.mw sc:=by unfold QG;rw[G.fk,G.sc];rfl
def Good.comp(G:Good J k P S X){sc:eO}(h:QG S.N (V1 sc) (Q6 sc) (eB S sc) S.mw sc=Zl)(C)(s)(H)(fp):Good J k P (S.comp sc) (fS X (V1 sc++Q6 sc) sc C s H fp):=by
 simp![QG,Zv,decide_eq_true_eq]at h;let#[#[#[#[#[#[#[#[#[kF,kF0],kNC],kL],kFr],kFx],kJ],kLen],kNd],kLo]:=h;calc#[rfl,?_,kNd,kF,G.calm,G.room,λz=>absurd z Zz,G.pg,λz=>absurd z Zz,λz=>absurd z Zz,λz=>absurd z Zz];change(relabel sc X.env).names=_;unfold relabel Sc.comp;dsimp only;refine si λx _=>?_
 let#[n,kd]:=x;dsimp only;rw[G.fk,G.kind];simp
end
structure xw(J:aN)(k:Nat)(P:Pg)(n:Nat):Prop where
 e:∀S X e,Good J k P S X->ar J X e (ev P n S e)
 t:∀S X e,Good J k P S X->gX J X e (my P n S e)
 o:∀S X e,Good J k P S X->ux J X e (BL P n S e)
 c:∀S X x args p pos,Good J k P S X->S.gl x=Zl->args.all J1=Zl->ar J X (.Call (.Name x p) args [] pos) (BM P n S x args)
 i:∀S X tg e,Good J k P S X->jX J X tg e (sQ P n S tg e)
 g:∀S X e,Good J k P S X->jE J X e (nE P n S e)
section
variable{J:aN}{k:Nat}{P:Pg}{n:Nat}{S:Sc}{X:Cx}
theorem W9:xw J k P 0:=#[λ_ _ _ _=>Jn,λ_ _ _ _=>Jn,λ_ _ _ _=>Jn,λ_ _ _ _ _ _ _ _ _=>Jn,λ_ _ _ _ _=>YC,λ_ _ _ _=>XJ]
def xx{K:W.Frag}(bE:sR J prog w K mg base k f fa fd ps)(h:f.fill m=M d):∃ds,Qj K fd ps ds/\m+ds.length=ps.length/\∃O,Vals O ds/\∀Y H,aC K Y H d O:=by
 unfold Fn.fill at h;split at h
 .rename_i j;cases h;let#[ds,B,C,q]:=bE.dv (f.bI.length-(f.np-m))<|eX _ _;show#[ds,B,by rw[C,bE.len];(rw[sX<|EI.mpr j.2];show jh j.1),q]
 .cases h
def YU(G:Good J k P S X)(hx:P.fn x=M f)(I:S.gl x=Zl)(ha:args.all J1=Zl)(H:∀e,ar J X e<|g e):ar J X (.Call (.Name x p) args [] pos) (Xl f args.length<|cL<|args.map g):=by
 let#[R,V,ps,hm,D,B]:=G.pg.fn x f hx;let#[gl,m,_]:=G.gl I;unfold Xl;cases hd:f.fill args.length with|none=>show Jn|some d=>let#[ds,C,E,q]:=xx B hd;have F:=G.room.mono<|gi k;cases args with|nil=>show RG B.ok F gl hm D C q (by simpa using E) m|cons a Q=>have j:=ha;simp![fY,Zv]at j;calc RF B.ok F gl hm D C q (Vv ha H) (λU h xs O e=>?_) m (Jy j.1)<|VV j.2;have:=Yq _ U h xs O e;rw[Zn]at this;rw[this];show E
def YV(G:Good J k P S X)(hx:P.cls x=M f)(O:S.gl x=Zl)(ha:args.all J1=Zl)(I:∀e,ar J X e<|g e):ar J X (.Call (.Name x p) args [] pos) (w9 x f args.length<|cL<|args.map g):=by
 let#[C,V,W,ps,hm,F,H,B]:=G.pg.cls x f hx;let#[gl,m,_]:=G.gl O;unfold w9;cases hd:f.fill (args.length+1)with|none=>show Jn|some d=>let#[ds,E,D,q]:=xx B hd;cases args with|nil=>show RK H B.ok F G.room gl hm E q (by simp at D;(rw[lE];show Z7 (Zg D)<|Zg D.symm)) m|cons a R=>have j:=ha;simp![fY,Zv]at j;calc RJ H B.ok F G.room gl hm E q (Vv ha I) (λU h xs Q e=>?_) m (Jy j.1)<|VV j.2;have:=Yq _ U h xs Q e;rw[Zn]at this;lia
def Iu(G:Good J k P S X)(m)(n):AN J X m n (JX P m n):=by
 intro c f bI h;unfold JX at h;cases hm:P.f6 c m with|none=>rw[hm]at h;cases h|some fn=>rw[hm]at h;dsimp only at h;cases hd:fn.fill (n+1)with|none=>rw[hd]at h;cases h|some d=>rw[hd]at h;cases h;let#[C,H,O,ps,I,j,F,B]:=G.pg.f6 c m fn hm;let#[ds,E,D,q]:=xx B hd;show#[C,H,O,k,ps,ds,I,j,F,B.ok,G.room.mono<|gi k,E,q,by(rw[mQ];show Z7 (Zg D)<|Zg D.symm)]
def YW(h:dN T m n=M g):∃id,PlainAttrs T/\Slot T m id/\typeOf (.builtin id)=pure (.type "method_descriptor")/\oD J X T id g:=by
 unfold dN at h;split at h
 .rename_i hm;simp![Zv,beq_iff_eq]at hm;let#[#[rfl,rfl],_]:=hm;cases h;show#[_,v7,PySem.F.slot_list_append,PySem.F.type_list_append,Sx]
 .split at h
  .rename_i hm;simp![Zv,beq_iff_eq]at hm;let#[#[rfl,rfl],_]:=hm;cases h;show#[_,v7,PySem.F.slot_list_extend,PySem.F.type_list_extend,TB]
  .split at h
   .rename_i hm;simp![Zv,beq_iff_eq]at hm;let#[#[rfl,rfl],_]:=hm;cases h;show#[_,v7,PySem.F.slot_list_pop,PySem.F.type_list_pop,WQ]
   .split at h
    .rename_i hm;simp![Zv,beq_iff_eq]at hm;let#[#[rfl,rfl],_]:=hm;cases h;show#[_,v7,PySem.F.slot_list_remove,PySem.F.type_list_remove,WT]
    .split at h
     .rename_i hm;simp![Zv,beq_iff_eq]at hm;let#[#[rfl,rfl],_]:=hm;cases h;show#[_,PySem.F.plainAttrs_str,PySem.F.slot_str_join,PySem.F.type_str_join,SD]
     .split at h
      .rename_i hm;simp![Zv,beq_iff_eq]at hm;let#[#[rfl,rfl],_]:=hm;cases h;show#[_,PySem.F.plainAttrs_dict,Ff,PySem.F.type_dict_setdefault,S3]
      .cases h
def YX(H:dN T m n=M g)(D:ar J X o mo)(F:∀e,ar J X e<|f e)(ha:args.all J1=Zl)(k:V2 o=Zl)(hl:(ap.endLine==pos.line)=Zl)(hn:args.length<30):ar J X (.Call (.Attribute o m ap) args [] pos) (qQ T g mo<|cL<|args.map f):=by let#[id,E,B,ty,C]:=YW H;cases args with|nil=>show Sw E B ty C D (xq k) hl|cons a I=>have j:=ha;simp![fY,Zv]at j;show A3 E B ty C D (Vv ha F) (xq k) (WY ha hn) hl (Jy j.1)<|VV j.2
def YZ(G:Good J k P S X)(C:ar J X o mo)(D:∀e,ar J X e<|f e)(ha:args.all J1=Zl)(B:V2 o=Zl)(hl:(ap.endLine==pos.line)=Zl)(hn:args.length<30):ar J X (.Call (.Attribute o m ap) args [] pos) (Ju P m args.length mo<|cL<|args.map f):=by
 refine WX λI h=>?_
 unfold Ju;cases e:mo I h with|exc n E=>show#[λ_ _=>.stuck,rfl,Jn]|stuck=>show#[λ_ _=>.stuck,rfl,Jn]|ok v E=>
  dsimp only;split
  .calc#[_,rfl,?_];cases args with|nil=>show RM C (Iu G m 0)<|BW B ha hl hn|cons a F=>have j:=ha;simp![fY,Zv]at j;calc RL C (Iu G m (a::F).length) (Vv ha D) (λU h xs O e=>?_) (Jy j.1) (VV j.2)<|BW B ha hl hn;have:=Yq _ U h xs O e;rwa [Zn]at this
  .cases H:dN (pZ v E) m args.length with|none=>show#[λ_ _=>.stuck,rfl,Jn]|some g=>show#[_,rfl,YX H C D ha B hl hn]
def Za(G:Good J k P S X)(ho:ar J X o mo)(R:∀e,ar J X e<|f e)(ha:args.all J1=Zl)(Q:V2 o=Zl)(hl:(ap.endLine==pos.line)=Zl)(hn:args.length<30):ar J X (.Call (.Attribute o m ap) args [] pos) (BJ P m args.length (xm P S m o) mo<|cL<|args.map f):=by
 cases I:xm P S m o with|none=>show YZ G ho R ha Q hl hn|some g=>
  cases o with
  |Name x q=>
   have D:(if m=="__init__"&&S.gl x&&P.nD x then P.cls x else Z)=M g:=I;clear I;split at D
   .rename_i W;simp at W;let#[#[rfl,hg],hx]:=W;let#[C,fa,fd,ps,hm,hC,bA,V]:=G.pg.cls x g D;let#[C',E,B]:=G.pg.nD x hx;rw[hm]at E;cases E;let#[gl,F,_]:=G.gl hg;change ar J X _ (if args.length=0 then bW else Xl g args.length (cL<|args.map f));split
    .show Jn
    rename_i Y;unfold Xl;cases hd:g.fill args.length with|none=>show Jn|some d=>let#[ds,H,O,q]:=xx V hd;have hr:aY k X.A:=G.room.mono<|gi k;cases args with|nil=>show absurd rfl Y|cons a es=>have j:=ha;simp![fY,Zv]at j;calc T9 V.ok hr gl hm B bA H q (Vv ha R) (λU h xs h' e=>?_) F (Jy j.1) (VV j.2)<|BW Q ha hl hn;have:=Yq _ U h xs h' e;rw[Zn]at this;rw[this];show O
   .cases D
  |_=>cases I
def Zi(G:Good J k P S X)(ha:ar J X a ma)(hs:J1 a=Zl)(Q:S.gl "isinstance"=Zl)(H:P.free "isinstance"=Zl)(V:S.gl y=Zl):
  ar J X (.Call (.Name "isinstance" p) [a,.Name y p2] [] pos) (BA (xa P y) ma):=by
 unfold BA;cases e:xa P y with|none=>show Jn|some E=>
  let#[m,j,B]:=G.gl V;have fin:∀{c:Zu},l9 X (.Name y p2) c->eR J X.K c E->ar J X (.Call (.Name "isinstance" p) [a,.Name y p2] [] pos) (cw E ma):=λR F=>
   Sa R F ha (G.gl Q).1 (G.pg.free _ H) rfl (Jy hs) rfl rfl
  unfold xa at e;cases D:P.nB y with|some g=>rw[D]at e;cases e;let#[c,hm,F]:=G.pg.nB y g D;show fin (GN m hm j) F|none=>
   rw[D]at e;dsimp only at e;split at e
   .rename_i I;have hm:=G.pg.free y I;split at e
    .rename_i q;cases (beq_iff_eq.mp q);cases e;show fin (X2 m hm rfl B j) Sf
    .split at e
     .rename_i q;cases (beq_iff_eq.mp q);cases e;show fin (X2 m hm rfl B j) Sb
     .split at e
      .rename_i q;cases (beq_iff_eq.mp q);cases e;show fin (X2 m hm rfl B j) Sd
      .split at e
       .rename_i q;cases (beq_iff_eq.mp q);cases e;calc fin (X2 m hm rfl B j) ?_;split
        .rename_i q;refine Ud λC O=>?_
         let#[Y,U,W]:=G.pg.ne _ q;cases O.symm.trans U;show W
        .show GO
       .split at e
        .rename_i q;cases (beq_iff_eq.mp q);cases e;show fin (X2 m hm rfl B j) Se
        .cases e
   .cases e
def Jwy(G:Good J k P S X)(ha:ar J X a ma)(hs:J1 a=Zl)(F:S.gl x=Zl)(E:P.free x=Zl)(hx:Bx x=Zl):
  ar J X (.Call (.Name x p) [a] [] pos) (aR (uK x)<|Jb ma Je):=by
 let#[B,j,C]:=G.gl F;have hm:=G.pg.free x E;have D:=G.room.hd;have m:=Qk ha Q5<|Jy hs;unfold Bx at hx;simp at hx;rcases hx with((((rfl|rfl)|rfl)|rfl)|rfl)|rfl
 .show Vh RX B hm rfl m C j (Jy hs) rfl
 .show Vh (Su D) B hm rfl m C j (Jy hs) rfl
 .show Vh (SE D) B hm rfl m C j (Jy hs) rfl
 .show Vh S7 B hm rfl m C j (Jy hs) rfl
 .show Vh (S9 D) B hm rfl m C j (Jy hs) rfl
 .show Vh (T6 D) B hm rfl m C j (Jy hs) rfl
def Jwz(G:Good J k P S X)(ha:ar J X a ma)(hs:J1 a=Zl)(E:S.gl x=Zl)(C:P.free x=Zl)(hx:By x=Zl):ar J X (.Call (.Name x p) [a] [] pos) (aR (uL x)<|Jb ma Je):=by
 let#[B,j,D]:=G.gl E;have hm:=G.pg.free x C;have m:e9 J X [a] (Jb ma Je):=Qk ha Q5<|Jy hs;unfold By at hx;simp![m3,beq_iff_eq]at hx;rcases hx with(rfl|rfl)|rfl
 .show AQ Sn B hm rfl m D j (Jy hs) rfl
 .show AQ Sq B hm rfl m D j (Jy hs) rfl
 .show AQ Sr B hm rfl m D j (Jy hs) rfl
def Jt5(G:Good J k P S X)(B:∀e,ar J X e<|f e)(F:S.gl x=Zl)(ha:args.all J1=Zl)(m:P.free x=Zl):
  ar J X (.Call (.Name x p) args [] pos) (BG P S x f args):=by
 unfold BG;split
 .rename_i a b;simp![fY,Zv]at ha;let#[O,C,I]:=G.gl F;have hm:=G.pg.free x m;have R:e9 J X [a,b] (Jb (f a)<|Jb (f b) Je):=Qk (B a) (Qk (B b) Q5<|Jy ha.2.1)<|Jy ha.1;have U:∀pos,(eF pos<|ZZ [b] X.env).any (·.1)=Zm:=λpos=>VV<|by simp[ha.2.1]
  split
  .rename_i D;cases (beq_iff_eq.mp D);show Vh (Sy G.calm) O hm rfl R I C (Jy ha.1) (U _)
  .split
   .rename_i D;cases (beq_iff_eq.mp D);show Vh (Sz G.calm) O hm rfl R I C (Jy ha.1) (U _)
   .split
    .rename_i y Y _;split
     .rename_i D;simp![Zv,beq_iff_eq]at D;let#[rfl,W]:=D;show Zi G (B a) ha.1 F m W
     .show Jn
    .show Jn
 .rename_i a b c d;simp![fY,Zv]at ha;split
  .rename_i D;cases (beq_iff_eq.mp D);let#[O,C,I]:=G.gl F;show Vh (T7 G.room.hd) O (G.pg.free _ m) rfl (Qk (B a) (Qk (B b) (Qk (B c) (Qk (B d) Q5<|Jy ha.2.2.2.1)<|Jy ha.2.2.1)<|Jy ha.2.1)<|Jy ha.1) I C (Jy ha.1) (VV<|by simp[ha.2.1,ha.2.2.1,ha.2.2.2.1])
  .show Jn
 .rename_i a;simp![fY,Zv]at ha;split
  .rename_i e j;split at j
   .rename_i H;simp![Zv,beq_iff_eq]at H;let#[#[rfl,g2],V]:=H;unfold xg at j;split at j
    .split at j
     .rename_i E;simp![Zv,beq_iff_eq]at E;let#[rfl,ns]:=E;cases j;show SU G.room.hd (G.gl F).1 (G.pg.free _ m) (G.gl g2).1 (G.pg.free _ V) (Qk (B e) Q5<|Jy ns) (Jy ns)
     .cases j
    .cases j
   .cases j
  .split
   .rename_i e j;split at j
    .rename_i H;simp![Zv,beq_iff_eq]at H;let#[#[rfl,g2],V]:=H;unfold xh at j;split at j
     .split at j
      .rename_i E;simp![Zv,beq_iff_eq]at E;let#[rfl,ns]:=E;cases j;show Jn
      .cases j
     .cases j
    .cases j
   .split
    .rename_i E;simp![Zv,beq_iff_eq]at E;let#[rfl,_]:=E;show Vh T8 (G.gl F).1 (G.pg.free _ m) rfl (Qk (B a) Q5<|Jy ha.1) 01 rfl (Jy ha.1) rfl
    split
    .rename_i Q;show Jwy G (B a) ha.1 F m Q
    .split
     .rename_i Q;show Jwz G (B a) ha.1 F m Q
     .show Jn
 .show Jn
def Jqg(G:Good J k P S X)(C:∀e,ar J X e<|f e)(E:S.gl x=Zl)(ha:args.all J1=Zl)(m:P.free x=Zl):ar J X (.Call (.Name x p) args [] pos) (xj P S x f args):=by
 unfold xj;split
 .rename_i e j;split at j
  .rename_i B;simp at B;let#[#[rfl,g2],F]:=B;unfold Ib at j;split at j
   .unfold xg at j;split at j
    .split at j
     .rename_i D;simp at D;let#[rfl,ns]:=D;cases j;show WO G.room.hd (G.gl E).1 (G.pg.free _ m) (G.gl g2).1 (G.pg.free _ F) (Qk (C e) Q5<|Jy ns) (Jy ns)
     .cases j
    .cases j
   .cases j
  .cases j
 .show Jt5 G C E ha m
def QL.of(G:Good J k P S X)(h:QL S y sc=Zl):jY X.N X.env.scope.names y (Q6 sc) (eB S sc) sc:=by rw[G.n,G.sc];simp![QL,Zv,beq_iff_eq,sA,decide_eq_true_eq,pN,m3,beq_eq_false_iff_ne]at h;let#[#[#[#[#[#[#[h1,h2],h3],h4],h5],h6],h7],h8]:=h;calc#[h1,h2,h3,h4,h5,λz C e=>(h6 z C).resolve_left λq=>q e,λz e=>j3 e,λi j z m B=>?_,by simp[eB],h8];unfold eB at m;rw[ZI,B]at m;cases m;show h7 z<|tK B
def Good.lam(G:Good J k P S X)(j:S.own=Zl){sc:eO}(h:QL S y sc=Zl)(f)(cd)(s)(H):Good J k P (S.lam y sc) (oJ X X.A.in1 (y::Q6 sc) S.q sc f cd s H):=by have L:=QL.of G h;show#[rfl,rfl,L.nd,L.kind,rfl,(G.j1 j).in1.deeper _,λz=>absurd z Zz,G.pg,λz=>absurd z Zz,λz=>absurd z Zz,λz=>absurd z Zz]
def Good.BX(G:Good J k P S X)(j:S.own=Zl){sc:eO}(h:QL S y sc=Zl)(f)(cd)(s)(H):Good J k P (S.lam y sc) (oJ X X.A.in1.in1 (y::Q6 sc) S.q sc f cd s H):=by
 have L:=QL.of G h;have R:=G.j1 j;refine#[rfl,rfl,L.nd,L.kind,rfl,#[R.hd,?_,?_],λz=>absurd z Zz,G.pg,λz=>absurd z Zz,λz=>absurd z Zz,λz=>absurd z Zz]
 .have:=R.dp;change X.A.depth+1+3*(k+1)+5<_;lia
 .have:=R.un;change X.A.units+1+1+3+16*(k+1)+200<_;lia
def Jqh(G:Good J k P S X)(C:∀S X e,Good J k P S X->ar J X e (f S e)):ar J X (.Call (.Name x p) [a] [#[M y,.Lambda ps body sc lp,kp],#[M y2,d,kp2]] pos) (BH P S f x a y ps body sc y2 d):=by
 unfold BH;split
 .rename_i e z j m F I;split
  .rename_i D;simp at D;let#[#[#[#[#[#[#[#[#[rfl,rfl],rfl],ht],g1],f1],g2],f2],ho],ok]:=D;unfold xh at m;unfold Ic at ht;split at m
   .split at m
    .rename_i B;simp at B;let#[rfl,ns]:=B;cases m;split at ht
     .show WV G.room.hd (G.gl g1).1 (G.pg.free _ f1) (G.gl g2).1 (G.pg.free _ f2) (Qk (C _ _ _ G) Q5<|Jy ns) (Jy ns) (G.j1 ho) (G.code ho).1 (G.code ho).2 (G.pg.blt _ _ I) F (QL.of G ok) λf cd H E=>C _ _ _<|G.BX ho ok f cd H E
     .cases ht
    .cases m
   .cases m
  .show Jn
 .show Jn
def Jw2(G:Good J k P S X)(B:∀S X e,Good J k P S X->ar J X e (f S e)):ar J X (.Call (.Name x p) [a] [#[M y,d,kp]] pos) (uM P S f x a y d):=by
 cases d with
 |Lambda ps m sc I=>
  change ar J X _ (match Vk ps,P.tabs S.q with|some z,M j=>if x=="min"&&y=="key"&&S.gl x&&P.free x&&J1 a&&S.own&&QL S z sc then X7 j0 S.q j (eB S sc) (Jb (f S a) Je) (f (S.lam z sc) m)else bW|_,_=>bW);cases E:Vk ps with|none=>show Jn|some z=>
   cases H:P.tabs S.q with|none=>show Jn|some j=>
    dsimp only;split
    .rename_i C;simp at C;let#[#[#[#[#[#[rfl,rfl],g1],f1],ns],ho],ok]:=C;show Uh (G.gl g1).1 (G.pg.free _ f1) (Qk (B _ _ _ G) Q5<|Jy ns) (λA h=>Ul<|ZP (Zd _ _) 06) (Jy ns) (G.j1 ho) (G.code ho).1 (G.code ho).2 (G.pg.blt _ _ H) E (QL.of G ok) λf cd F D=>B _ _ _<|G.lam ho ok f cd F D
    .show Jn
 |_=>show Jn
def J5k(G:Good J k P S X)(j:∀S X e,Good J k P S X->ar J X e (f S e)):ar J X (.Call (.Name x p) args kws pos) (BI P S f x args kws):=by
 unfold BI;split
 .split
  .rename_i m;simp![Zv,beq_iff_eq]at m;let#[#[#[#[rfl,rfl],g1],f1],ns]:=m;show SM G.room.hd (G.gl g1).1 (G.pg.free _ f1) (Qk (j _ _ _ G) Q5<|Jy ns) (j _ _ _ G) (Jy ns)
  .show Jw2 G j
 .show Jqh G j
 .show Jn
def Jw4(I:xw J k P n):xw J k P (n+1):=by
 refine#[λS X e G=>?_,λS X e G=>?_,λS X e G=>?_,λS X x E p pos G W ha=>?_,λS X Q e G=>?_,λS X e G=>?_]
 .have B:=λe=>I.e S X e G
  have hu:=G.room.units;cases e with
  |Constant c j p=>cases c with|int i=>show Gm|bool b=>show uw|none=>show Gn|str x=>show Gp|_=>show Jn
  |Name x p=>
   change ar J X (.Name x p) (match S.oO x with|some i=>Ja i|none=>if S.gl x then(match P.con x with|some v=>eC v|none=>bW)else bW);cases hv:S.oO x with|some i=>let#[h1,h2,h3,h4]:=G.oO hv;show PA i h1 h2 h3 h4|none=>
    dsimp only;split
    .rename_i W;let#[gx,xdb,_]:=G.gl W;cases hc:P.con x with|none=>show Jn|some v=>let#[u,y,hm,r,q]:=G.pg.con x v hc;show PB gx hm r q xdb
    .show Jn
  |BinOp a R b p=>show PC (WZ R) (B a)<|B b
  |UnaryOp R a p=>show Av (BV R)<|B a
  |BoolOp R O p=>cases R with|And=>show Ih B O|Or=>show Ii B O
  |IfExp t a b p=>show PO (I.t S X t G) (B a)<|B b
  |Compare a ops cs p=>
   match ops,cs with
   |[o],[b]=>
    change ar J X _ (if rQ o b then bW else Jc (kH P.ne o b) (ev P n S a) (ev P n S b));split
    .show Jn
    .rename_i Y;show PD (Iq hu o b) (B a) (B b)<|tP.mpr Y
   |[o,o'],[b,c]=>
    change ar J X _ (if r7 [o,o'] [b,c]then bW else JO (f7 o) (f7 o') (ev P n S a) (ev P n S b) (ev P n S c));split
    .show Jn
    .rename_i Y;show PQ (YA hu o) (YA hu o') (B a) (B b) (B c)<|tP.mpr Y
   |[],_=>show Jn
   |[_],[]=>show Jn
   |[_],_::_::_=>show Jn
   |[_,_],[]=>show Jn
   |[_,_],[_]=>show Jn
   |[_,_],_::_::_::_=>show Jn
   |_::_::_::_,_=>show Jn
  |Tuple V j p=>
   change ar J X _ (if V.all J1 then bO (cL<|V.map<|ev P n S)else bW);split
   .rename_i F;show P6<|Vv F B
   .show Jn
  |List V p=>
   change ar J X _ (if V.all J1 then J0 (cL<|V.map<|ev P n S)else bW);split
   .rename_i F;show P7<|Vv F B
   .show Jn
  |Dict ks O p=>match ks,O with|[M k],[v]=>show Jn|[],[]=>show S0|[],_::_=>show Jn|[Z],_=>show Jn|[M _],[]=>show Jn|[M _],_::_::_=>show Jn|some _::_::_,_=>show Jn|none::_::_,_=>show Jn
  |Subscript a i p=>
   cases i with
   |Slice lo D st q=>cases st with|none=>show RW (W0 a) (B a) (I.o S X lo G)<|I.o S X D G|some st=>show Jn
   |_=>show AP (W5 a) (B a) (B _)<|W8 rfl
  |Attribute o f p=>
   change ar J X _ (if V2 o&&P.fld f then Jm f (ev P n S o)else bW);split
   .rename_i F;simp![Zv]at F;show RN (B o) (G.pg.fld f F.2)<|xq F.1
   .show Jn
  |Call f E U p=>
   cases U with
   |cons kw U=>cases f with|Name x q=>show J5k G λS X e G=>I.e S X e G|_=>show Jn
   |nil=>
    cases f with
    |Name x q=>
     change ar J X _ (if S.gl x&&E.all J1 then BM P n S x E else bW);split
     .rename_i F;simp![Zv]at F;show I.c S X x E q p G F.1 F.2
     .show Jn
    |Attribute o m ap=>
     change ar J X _ (if E.all J1&&V2 o&&(ap.endLine==p.line)&&decide (E.length<30)then BJ P m E.length (xm P S m o) (ev P n S o) (cL<|E.map<|ev P n S)else bW);split
     .rename_i F;simp![Zv,decide_eq_true_eq]at F;show Za G (B o) B F.1.1.1 F.1.1.2 F.1.2 F.2
     .show Jn
    |_=>show Jn
  |ListComp elt gens sc p=>
   match gens with
   |[⟨Q,iter,ifs,as⟩]=>
    change ar J X _ (if as=0/\XG iter=Zl/\QG S.N (V1 sc) (Q6 sc) (eB S sc) S.mw sc=Zl then
     BK ifs (my P n<|S.comp sc) (λmt=>Jv (sQ P n S Q iter) (V1 sc).length (eB S sc) (nE P n (S.comp sc) Q) mt<|ev P n (S.comp sc) elt)else bW)
    split
    .rename_i F;let#[rfl,D,ok]:=F;have Gc:=G.comp ok;have ok':=ok;rw[<-Ir G]at ok';match ifs with|[]=>show GW G.calm (I.i S X Q iter G) (λC s H fp=>I.g _ _ Q<|Gc C s H fp) (λC s H fp=>GR) (λC s H fp=>I.e _ _ elt<|Gc C s H fp) ok' G.n rfl (Y2 D)|[c]=>show GW G.calm (I.i S X Q iter G) (λC s H fp=>I.g _ _ Q<|Gc C s H fp) (λC s H fp=>GS<|I.t _ _ c<|Gc C s H fp) (λC s H fp=>I.e _ _ elt<|Gc C s H fp) ok' G.n rfl (Y2 D)|_::_::_=>show Jn
    .show Jn
   |[]=>show Jn
   |⟨_,_,_,_⟩::_::_=>show Jn
  |_=>show Jn
 .have B:=λe=>I.e S X e G
  have hu:=G.room.units;cases e with
  |UnaryOp R a p=>cases R with|Not=>show PL<|I.t S X a G|_=>show Gq YM<|B _
  |BoolOp R O p=>cases R with|And=>show(Ij (λe=>I.t S X e G) O).t|Or=>show(Il (λe=>I.t S X e G) O).t
  |IfExp t a b p=>show Jn
  |Compare a ops cs p=>
   match ops,cs with
   |[o],[b]=>
    change gX J X _ (if rQ o b then oN else Ji aM (Jc (kH P.ne o b) (ev P n S a)<|ev P n S b));split
    .show Jn
    .rename_i Y;show PF (Iq hu o b) (B a) (B b)<|tP.mpr Y
   |[o,o'],[b,c]=>
    change gX J X _ (if r7 [o,o'] [b,c]then oN else Ji aM (JO (f7 o) (f7 o') (ev P n S a) (ev P n S b)<|ev P n S c));split
    .show Jn
    .rename_i Y;show PR (YA hu o) (YA hu o') (B a) (B b) (B c)<|tP.mpr Y
   |[],_=>show Jn
   |[_],[]=>show Jn
   |[_],_::_::_=>show Jn
   |[_,_],[]=>show Jn
   |[_,_],[_]=>show Jn
   |[_,_],_::_::_::_=>show Jn
   |_::_::_::_,_=>show Jn
  |_=>show Gq YM<|B _
 .cases e with|none=>show RS|some e=>show RT<|I.e S X e G
 .have B:=λe=>I.e S X e G
  change ar J X _ (match P.fn x with|some f=>Xl f E.length<|cL<|E.map<|ev P n S|none=>match P.cls x with|some f=>w9 x f E.length<|cL<|E.map<|ev P n S|none=>if P.free x then xj P S x (ev P n S) E else bW);cases hx:P.fn x with|some f=>show YU G hx W ha B|none=>
   dsimp only;cases hc:P.cls x with|some f=>show YV G hc W ha B|none=>
    dsimp only;split
    .rename_i hfr;show Jqg G B W ha hfr
    .show Jn
 .have B:=λe=>I.e S X e G
  cases e with
  |Call f E U p=>
   cases U with|cons _ _=>cases f<;>show wW<|B _|nil=>
    cases f with
    |Name x q=>
     change jX J X Q _ (if S.gl x&&P.free x&&E.all J1&&(x=="range")then Ia E.length (cL<|E.map<|ev P n S)
      else if S.gl x&&P.free x&&E.all J1&&(x=="enumerate")then(match Q,E with|.Tuple ..,[a]=>dM QJ<|Jb (ev P n S a) Je|_,_=>stI)
      else Jq (ev P n S<|.Call (.Name x q) E [] p))
     split
     .rename_i F;simp![Zv,beq_iff_eq]at F;let#[#[#[W,hf],ha],rfl]:=F;let#[gx,_,_]:=G.gl W;have hm:=G.pg.free _ hf;have pa:=Vv ha B;match E,ha,pa with|[],_,_=>show YC|[a],ha,pa=>simp![fY,Zv]at ha;show RE gx hm pa<|Jy ha.1|[a,b],ha,pa=>simp![fY,Zv]at ha;show YC|_::_::_::_,_,_=>show YC
     .split
      .rename_i F;simp![Zv,beq_iff_eq]at F;let#[#[#[W,hf],ha],rfl]:=F;let#[gx,_,_]:=G.gl W;have hm:=G.pg.free _ hf;split
       .simp only[fY,Zv]at ha;show TL gx hm (Qk (B _) Q5<|Jy ha.1)<|Jy ha.1
       .show YC
      .show wW<|B _
    |_=>show wW<|B _
  |_=>show wW<|B _
 .cases e with
  |Name x p=>change jE J X _ (match S.ic x with|some i=>aF i|none=>nA);cases hv:S.ic x with|none=>show XJ|some i=>let#[h1,h2,h3]:=G.ic hv;show AG G.nodup h1 h2 h3
  |Tuple V j p=>
   change jE J X _ (if V.all J1 then iF V.length (oP<|V.map<|nE P n S)else nA);split
   .rename_i F;show Rp G.calm (Im F λe=>I.g S X e G) (Io F)<|Ip F
   .show XJ
  |Subscript o i p=>
   change jE J X _ (if Xs i then rg o (ev P n S o) (ev P n S i)else nA);split
   .rename_i F;unfold rg;split
    .refine S6 (I.e S X o G) (I.e S X i G) λv=>?_
     cases i<;>first|rfl|cases F
    .show XJ
   .show XJ
  |_=>show XJ
theorem xy(J)(k)(P):∀n,xw J k P n|0=>W9|n+1=>Jw4<|xy J k P n
end
section
variable{J:aN}{X:Cx}{pos:Pos}
def J1e{mt:T1}(hst:X.stack=X.env::X.outer)(hf:X.env.frame=M X.env.locals)(hc:gX J X c mt)(hb:kx J X body mb):cU J X (.While c body [] pos) (V5 mt mb):=by
 intro V s U H Y bF h Q E N K;rw[Ie]at K;generalize Xa=m0 at K;calc wpAny_While<|codeAny_whileLoop (λn s'=>∃Uk Pk hk U' H',aG J X V Uk Pk hk U' H' s'/\bj Y H Uk H'/\JD J X V Uk H' (Vr mt mb n Pk hk) Q E) ?_ m0 #[Y,bF,h,U,H,N,.refl,K];rintro n s1 ⟨U1,D,h1,W1,H1,N1,n1,j⟩;cases n with|zero=>show(j).elim|succ n=>
  unfold Vr at j;calc oB<|hc V s1 W1 H1 U1 D h1 _ (λ_ _=>False) N1 ?_;cases et:mt D h1 with|exc m h2=>rw[et]at j;show(j).elim|stuck=>rw[et]at j;show(j).elim|ok b h2=>
   rw[et]at j;intro b' s2 H2 W2 N2 n2 r2;have r':b'=b:=r2;subst r';dsimp only at j;cases b' with|false=>show tm<|j s2 W1 H2 W2 N2 n2|true=>
    rw[if_pos rfl];rw[if_pos rfl]at j;calc hb V s2 W1 H2 W2 D h2 _ _ N2 ?_;cases S:mb D h2 with
    |next U3 P=>rw[S]at j;show λW k O R I B=>#[n,ZY n,R,U3,P,k,O,I,(n1.trans n2).trans B,JD.mono j<|n2.trans B]
    |cont U3 P=>rw[S]at j;show λW k O R I B=>#[n,ZY n,R,U3,P,k,O,I,(n1.trans n2).trans B,JD.mono j<|n2.trans B]
    |brk U3 P=>rw[S]at j;show λW k O R I B=>j W k O R I<|n2.trans B
    |ret v P=>rw[S]at j;show λu W U3i k O R I B r=>j u W U3i k O R I (n2.trans B) r
    |exc m U3 P=>
     rw[S]at j;dsimp only at j;cases hj:P[m]? with|none=>rw[hj]at j;show(j).elim|some ob=>
      cases ob with
      |exc c fs=>
       rw[hj]at j;intro pl a s7 U7 H7 W7 N7 n7 q s8 fl;let#[C,tv,d,fe,hC,ha,ht]:=N7.rel.get hj q;have F:∀h8,eK X.env.locals (fu X.stack) a s7.heap h8->cameBackBy (Z4 X.prog X.w) X.A X.env E (.ref a) {s7 with heap:=h8}:=λh8 n8=>
        Gz hf n8 λh9 n9=>j pl a s7 U7 H7 W7 N7 (n2.trans n7) q _<|.inr #[h9,rfl,n9]
       rcases fl with rfl|⟨h8,rfl,n8⟩
       .show AI N7.inv hst hf ha ht F
       .show AJ hf n8<|F h8 n8
      |_=>rw[hj]at j;show(j).elim
    |stuck=>rw[S]at j;show(j).elim
def Jvu(k:¬ ∃i j,op=.Add/\x=.int i/\y=.int j):nF op x y h=.stuck:=by
 unfold nF;split
 .simp_all
 .rfl
def rj(op):dW J X (inplaceOp op) (nF op):=by
 intro V s U H Y F h x y v u Q E N m k K;by_cases c:∃i j,op=.Add/\x=.int i/\y=.int j
 .let#[i,j,rfl,rfl,rfl]:=c;let#[I,m,qx]:=m;let#[C,k,B]:=k;cases (qx);cases (B);let#[t,rfl]:=m;let#[D,rfl]:=k;show iadd_int<|K _ _ H Y #[N.inv.tok _,N.rel,N.st] .refl #[.int<|i+j,#[_,rfl],rfl]
 .rw[Jvu c]at K;show(K).elim
def J7z(hN:X.N.Nodup)(he:ar J X e me)(D:X.N[i]?=M x)(hx:Loc X.env.scope x)(S:X.fn x=Zl\/X.env.scope.names.lookup x=M .local):cU J X (.AugAssign (.Name x pos') op e pos) (i8 op i me):=by
 intro V s U H Y F h Q E N K;calc wpAny_AugAssign_Name ?_;unfold i8 at K;cases ev:Ja i F h with|exc n O=>exfalso;unfold Ja at ev;split at ev<;>cases ev|stuck=>rw[ev]at K;show(K).elim|ok v O=>
  rw[ev]at K;obtain⟨e1,rfl⟩:F[i]?=M (M v)/\O=h:=by
   unfold Ja at ev;split at ev
   .rename_i q;cases ev;show#[q,rfl]
   .cases ev
  let#[w,hw,qw]:=N.st.at_ i v e1;let#[m,hn,hl]:=N.inv.loc;have oO:qG X.env.scope x:=by rcases hx with k|k;show .inl k;show .inr (.inl k)
  let#[u,r,l]:=hl i x w D hw oO;have go:ZB (Z4 X.prog X.w) X.A (bN e X.env) (λw s₂=>ZB (Z4 X.prog X.w) X.A (inplaceOp op u w) (λr s₃=>ZB (Z4 X.prog X.w) X.A (storeName X.env x r) (λ_=>Q .next) E s₃) E s₂) E s:=by
   refine dA he N K λy R uy W H2 W2 N2 n2 r2 B=>?_
   calc rj op V W U H2 W2 F R v y u uy _ E N2 #[w,r,RV.mono n2 _ _ qw] r2 ?_;cases I:nF op v y R with|exc n h3=>rw[I]at B;show λpl a P H' Y' N' n' q=>B pl a P U H' Y' N' n' q P<|.inl rfl|stuck=>rw[I]at B;show B|ok z h3=>rw[I]at B;intro uz s3 H3 W3 C n3 r3;let#[zv,rz,qz]:=r3;show YJ C.inv hN D hx rz (λs4 I4=>B s4 _ H3 W3 #[I4,C.rel,C.st.set i qz] n3) S
  rcases l with⟨j,hm⟩|⟨j,c,hc,hcell⟩
  .show wpAny_loadName_local N.inv.ok.kind j hn hm go
  .rcases j with j|j
   .show wpAny_loadName_cell N.inv.ok.kind j hc hcell go
   .rcases hx with k|k
    .have:X.env.scope.names.lookup x=M .free:=j;rw[k]at this;cases this
    .have:X.env.scope.names.lookup x=M .free:=j;rw[k]at this;cases this
def J5a(ho:ar J X o mo)(he:ar J X e me)(hf:Yo J X.K fl):cU J X (.AugAssign (.Attribute o fl tpos) op e pos) (XR op fl mo me):=by
 intro V s U H Y bF h Q E N K;refine wpAny_AugAssign_AttributeAny<|dA ho N K λov h1 w s1 H1 U1 S n1 r1 k=>?_
 cases ov with
 |ref i=>
  let#[w,rw',a,e1,D]:=r1;subst e1;cases rw';dsimp only at k;cases W:h1[i]? with|none=>rw[W]at k;show(k).elim|some ob=>
   cases ob with
   |ins c fs=>
    rw[W]at k;dsimp only at k;cases hl:fs.lookup fl with|none=>rw[hl]at k;show(k).elim|some x=>
     rw[hl]at k;let#[C,dx,O,hC,hH,rp]:=S.at W D;let#[cl,na]:=hf c C hC;let#[y,hy,q]:=(b9.lookup rp).1 x hl;refine FR S.inv hH cl na hy λu' s2 I2 ru=>?_
     refine dA he (#[I2,S.rel,S.st]:aG J X V U1 bF h1 U H1 s2) k λz h3 uz s3 H3 W3 N3 n3 r3 j=>?_
     calc rj op V s3 U H3 W3 bF h3 x z u' uz _ E N3 #[y,ru,RV.mono n3 _ _ q] r3 ?_;cases ez:nF op x z h3 with|exc n h4=>rw[ez]at j;show λpl a s' H' Y' N' n' q=>j pl a s' U H' Y' N' n' q s'<|.inl rfl|stuck=>rw[ez]at j;show j|ok v h4=>
      rw[ez]at j;intro uv s4 H4 W4 N4 n4 r4;dsimp only[rS]at j;have P:=n4.at<|n3.at D;cases B:h4[i]? with|none=>rw[B]at j;show(j).elim|some ob=>
       cases ob with
       |ins c' gs=>
        rw[B]at j;dsimp only at j;split at j
        .rename_i hz;let#[C',I,vs',F,m,R]:=N4.at B P;let#[cl',na']:=hf c' C' F;let#[yv,ryv,qv]:=r4;refine FU N4.inv m cl' na' (by rw[R.length];show hz) ryv λs5 I5=>?_
         have n5:bj W4 H4 W4 (upd H4 a<|.ins C' I<|cT fl yv vs'):=#[#[[],03],Ext.cG m<|by rw[m];show fj];let#[R5,_]:=N4.rel.write (io:=.ins c'<|bG fl v gs) P m (by rw[m];show fj) #[C',I,_,F,J4,b9.put (RV.mono n5 _ _ qv)<|b9.mono n5 _ _ R];show j s5 U _ W4 #[I5,R5,N4.st.mono n5]<|n4.trans n5
        .show(j).elim
       |_=>rw[B]at j;show(j).elim
   |_=>rw[W]at k;show(k).elim
 |_=>show(k).elim
def J3b:dW J X pE xn:=by
 intro V s U H Y bF h x y v u Q E N C B K;let#[xv,C,qx]:=C;let#[yv,B,P]:=B;cases x with
 |ref i=>
  cases y with
  |int k=>
   let#[a,rfl,ha]:=qx;cases (P);cases C;let#[t,rfl]:=B;dsimp only[xn]at K;cases D:h[i]? with|none=>rw[D]at K;show(K).elim|some ob=>
    rw[D]at K;cases ob with
    |lst xs=>
     dsimp only at K;cases m:bq xs k with|none=>rw[m]at K;show(K).elim|some z=>
      rw[m]at K;dsimp only at K;split at K
      .rename_i I;let#[O,e1,W]:=N.at D ha;let#[w,S,qw]:=wH W m;let#[its,r,pl,hz]:=N.inv.list<|b8.of e1;let#[j,g1,g2,g3,g4,R]:=wt S;let#[w',ew,F]:=r.get g2;have hn:=Xq;have hj:k.toNat=j:=by rw[vw I R]at g1;show gJ g1
       show wpAny_getItem_list pl.isList I 05 (by simp_all)<|K _ _ H Y N .refl #[w,F,qw]
      .show(K).elim
    |_=>show(K).elim
  |_=>show(K).elim
 |_=>cases y<;>show(K).elim
def Iv(p:dW J X f g)(N:aG J X V Y bF h U H s)(P:RU X.K Y H x v)(O:RU X.K Y H y u) (K:JD J X V Y H (rS bF (g x y h) k) Q E) (step:∀z h1 w s1 H1 m,aG J X V m bF h1 U H1 s1->bj Y H m H1->RU X.K m H1 z w->JD J X V m H1 (k z h1) Q E->Q1 w s1):ZB (Z4 X.prog X.w) X.A (f v u) Q1 E s:=by calc p V s U H Y bF h x y v u Q1 E N P O ?_;cases e:g x y h with|ok z I=>rw[e]at K;show λw j D F C B r=>step z I w j D F C B r<|JD.mono K B|exc n I=>rw[e]at K;show λpl a j D F C B q=>K pl a j U D F C B q j<|.inl rfl|stuck=>rw[e]at K;show K
def J5h(N:aG J X V Y bF h U H s)(P:RU X.K Y H o ou)(O:RU X.K Y H i iu)(rv:RU X.K Y H v u) (K:JD J X V Y H (oF o i v bF h) Q E):ZB (Z4 X.prog X.w) X.A (setItem ou iu u) (λ_=>Q .next) E s:=by
 let#[ox,P,qo]:=P;let#[ix,O,qi]:=O;let#[S,F,qv]:=rv;cases o with
 |ref i=>
  rename_i iv;cases iv with
  |int k=>
   let#[a,rfl,m]:=qo;cases (qi);dsimp only[oF]at K;cases I:h[i]? with|none=>rw[I]at K;show(K).elim|some ob=>
    rw[I]at K;cases ob with
    |lst xs=>
     dsimp only at K;cases R:ki xs.length k with|none=>rw[R]at K;show(K).elim|some j=>
      rw[R]at K;let#[D,C,B]:=N.at I m;refine d6 (Pa (X:=X.br E) V s U H (.ref a) (.int k) S ou iu u (λW=>W=upd H a (.lst<|D.set j S)) (N.inv.br E) P O F #[a,D,k,j,rfl,rfl,C,by rw[B.length];show R,rfl]) (λ_ s3 hq=>?_) λ_ _ z=>z
      let#[W,I',rfl]:=hq;have n:bj Y H Y (upd H a<|.lst<|D.set j S):=#[#[[],03],Ext.cG C<|by rw[C];show fj];let#[R3,_]:=N.rel.write (io:=.lst<|xs.set j v) m C (by rw[C];show fj) #[_,J4,(aC.mono n _ _ B).set (RV.mono n _ _ qv) j];show K s3 U _ Y #[I'.bt,R3,N.st.mono n] n
    |_=>show(K).elim
  |_=>show(K).elim
 |_=>cases i<;>show(K).elim
def J5b(ho:ar J X o mo)(D:ar J X i mi)(he:ar J X e me)(hs:Xs i=Zl):cU J X (.AugAssign (.Subscript o i tpos) op e pos) (XS op mo mi me):=by
 intro V s U H Y bF h Q E N K;calc wpAny_AugAssign_SubscriptAny (dA ho N K λov h1 ou s1 H1 U1 P n1 B W=>dA D P W λkv h2 ku s2 H2 W2 N2 n2 m I=>?_) (λ_ _ _=>by cases i<;>first|rfl|cases hs);refine Iv J3b N2 (B.mono n2) m I λx h3 xu s3 H3 W3 S k r3 O=>?_
 refine dA he S O λy h4 yu s4 H4 W4 N4 j r4 R=>?_
 refine Iv (rj op) N4 (r3.mono j) r4 R λz h5 zu s5 H5 U5 N5 C r5 F=>?_
 show J5h N5 ((((B.mono n2).mono k).mono j).mono C) (((m.mono k).mono j).mono C) r5 F
end
section
variable{J:aN}{k:Nat}{P:Pg}{n:Nat}{S:Sc}{X:Cx}
theorem VR(j:∀s,cU J X s<|f s):∀(l:Tl),kx J X l (fB<|l.map f)|[]=>Ra|[a]=>Rc<|j a|a::b::r=>Rb (j a)<|VR j<|b::r
end
section
variable{J:aN}{k:Nat}{P:Pg}{S:Sc}{X:Cx}{xi:Xi}{xf:Str->Str->Bool}{fr:Str->Bool}
theorem J6v(a):∀(n:Nat)(w:Bool)(S:Sc)(X:Cx),Good J k P S X->mE X.K X.mg xi xf->(∀x,fr x=Zl->X.mg x=Z)->(w=Zl->uB (JJ X a).A X.H₀)->∀e,ar J (JJ X a) e (hv xi xf fr n w S e)
 |0,_,_,_,_,_,_,_,_=>Jn
 |n+1,w,S,X,G,bD,D,hw,e=>by
  cases e with
  |Constant c j p=>
   cases c with
   |int i=>show Gm
   |bool b=>show uw
   |none=>show Gn
   |str x=>show Gp
   |_=>show Jn
  |_=>show Jn
theorem Iw(G:Good J k P S X)(bD:mE X.K X.mg xi xf)(D:∀x,fr x=Zl->X.mg x=Z)(a)(B:w=Zl->uB (JJ X a).A X.H₀):∀n st,cU J (JJ X a) st (hx xi xf fr w S n st)
 |0,_=>JB
 |n+1,st=>by
  have H:=Iw G bD D a B n;have j:=J6v a n w S X G bD D B;cases st with
  |Assign m e p=>
   match m with
   |[]=>show JB
   |b::_::_=>cases b<;>show JB
   |[tg]=>
    cases tg with
    |Name x q=>
     change cU J (JJ X a) _ (if QR e then(match S.ic x with|some i=>Jl i (hv xi xf fr n w S e)|none=>cz)else cz);split
     .rename_i h;cases hv:S.ic x with
      |none=>show JB
      |some i=>let#[C,F,E]:=G.ic hv;show AF (X:=JJ X a) G.nodup (j e) C F (YL h) E
     .show JB
    |_=>show JB
  |_=>show JB
def Jse(G:Good J k P S X)(j:S.own=Zl)(n)(a)(sl)(suite):Bf J X a sl suite (Ig P S n sl suite):=by show(VR (Iw G G.pg.xi G.pg.free a (λz=>by cases z) n) _).h
def J6u(G:Good J k P S X)(bD:mE X.K X.mg xi xf)(hx:xi bE=M g)(h2:S.gl bE=Zl)(a)(c)(C)(b)(V)(U)(H)(s)(Q)(E)(F:g c=M b) (R:W.nsIn X.K ZJ c=M (M<|.ref C))(I:Inv (JJ X a) V U H s)(ho:∃j,s.heap.get? a=M j/\j.cls=.ref C)(hq:Q b s):ZB (Z4 X.prog X.w) (JJ X a).A (bN (.Name bE q) X.env) (λv s₁=>ZB (Z4 X.prog X.w) (JJ X a).A (excMatches (.ref a) v) Q E s₁) E s:=by
 let#[v,hv,Y]:=bD.1 bE g hx;let#[D,m,O]:=G.gl h2;have hc:l9 (JJ X a) (.Name bE q) v:=by
  rcases hv with z|⟨z,w⟩
  .show GN D z m
  .show X2 D z w O m
 calc hc V U H s _ E I ?_;let#[_,_,e3]:=Y c C b F R;let#[j,h1,h2]:=ho;let#[B,gg,d,tk,os]:=s;have LT:W.Looks (Z4 X.prog X.w) B (typeOf<|.ref a) (.ref C):=h2▸(W.Looks.ld h1).andThen .now;show(W.exm_one (I.dQ:X.K.In B) LT e3).at hq
theorem Iy(G:Good J k P S X)(F:S.own=Zl):∀{l:Tr}{D:Tq},mC P S n l=M D->gy J X l D
 |[],D,e=>by cases e;show .nil
 |h::r,D,e=>by
  unfold mC at e;cases j:BQ P S n h with
  |none=>rw[j]at e;cases e
  |some q=>
   cases W:mC P S n r with
   |none=>rw[j,W]at e;cases e
   |some l=>
    rw[j,W]at e;cases e;unfold BQ at j;split at j
    .rename_i bE q2 nm b R pos;split at j
     .rename_i hD;cases B:P.xi bE with
      |none=>rw[B]at j;cases j
      |some g=>
       cases m:BP S nm with
       |none=>rw[B,m]at j;cases j
       |some sl=>
        rw[B,m]at j;cases j;calc .cons #[λa c C b V U H s Q E Y hC I F hq=>J6u G G.pg.xi B hD a c C b V U H s Q E Y hC I F hq,?_,λa=>Jse G F n a sl _]<|Iy G F W;unfold BP at m;cases nm with
        |none=>cases m;show .inl #[rfl,rfl]
        |some x=>
         dsimp only at m;split at m
         .rename_i hl;let#[i,O,rfl]:=ZL.mp m;calc .inr #[x,i,rfl,rfl,by rw[G.n];show Y5 O,?_];rw[G.kind];show beq_iff_eq.mp hl
         .cases m
     .cases j
    .cases j
end
section
variable{J:aN}{k:Nat}{P:Pg}{n:Nat}{S:Sc}{X:Cx}
def Jsd(G:Good J k P S X)(hm:∀e,ar J X e<|m e):cU J X (.Raise exc cause p) (BR P S m exc cause):=by
 unfold BR;split
 .rename_i x q e Q;split
  .rename_i h;simp![Zv]at h;let#[#[D,I],j]:=h;let#[C,B,H,E]:=G.pg.rz x I;let#[O,F,_]:=G.gl D;show TU G.calm O B H E (Qk (hm e) Q5<|Jy j) F (Jy j) rfl
  .show JB
 .show JB
def Jzt(G:Good J k P S X)(hm:∀s,cU J X s<|m s):cU J X (.Try body hs o f p) (rh P S n m body hs o f):=by
 unfold rh;split
 .split
  .rename_i h;let#[j,B]:=G.top h;split
   .rename_i C e;show TZ G.nodup j B (VR hm body)<|Iy G h e
   .show JB
  .show JB
 .show JB
def Jy1(h:J1 tg=Zl):(iK [tg] env).map (·.2)=[nP tg env]:=by cases tg<;>first|rfl|cases h
def Jw3(G:Good J k P S X)(i)(h:mB e=Zl)(h1:X.N[i]?=M x)(h2:L2.Loc X.env.scope x)(h3:X.fn x=Zl\/X.env.scope.names.lookup x=M .local):cU J X (.Assign [.Name x q] e p) (Jl i<|ev P n S e):=by
 cases e with
 |ListComp F I sc cp=>
  cases hb:(X.env.blockKind==.function&&X.env.kindOf x==M .local&&q.line==cp.line&&!(sc.names.any λ(n,k)=>n==x&&(k==.local||k==.cell)))with|false=>calc AF G.nodup ((xy J k P n).e S X _ G) h1 h2 ?_ h3;change(pure (X.env.blockKind==.function&&X.env.kindOf x==M .local&&q.line==cp.line&&!(sc.names.any λ(n,k)=>n==x&&(k==.local||k==.cell))):Sem Bool)=pure Zm;rw[hb]|true=>
   have B:qf (.ListComp F I sc cp) (M<|.Name x q) p.line X.env=pure Zl:=by change(pure (X.env.blockKind==.function&&X.env.kindOf x==M .local&&q.line==cp.line&&!(sc.names.any λ(n,k)=>n==x&&(k==.local||k==.cell))):Sem Bool)=pure Zl;rw[hb]
   have j:∀m:E1,(∀U h,m U h=.stuck)->cU J X (.Assign [.Name x q] (.ListComp F I sc cp) p) (Jl i m):=λm hm=>by intro V s U H Y bF h Q E N K;unfold Jl at K;rw[hm]at K;show Zf K
   cases n with|zero=>show j _ λ_ _=>rfl|succ n=>
    have R:=xy J k P n;match I,B with
    |[⟨tg,iter,ifs,as⟩],B=>
     change cU J X _ (Jl i (if as=0/\XG iter=Zl/\QG S.N (V1 sc) (Q6 sc) (eB S sc) S.mw sc=Zl then BK ifs (my P n<|S.comp sc) (λmt=>Jv (sQ P n S tg iter) (V1 sc).length (eB S sc) (nE P n (S.comp sc) tg) mt<|ev P n (S.comp sc) F)else bW));split
     .rename_i hs;let#[rfl,D,ok]:=hs;have W:=G.comp ok;have O:=ok;rw[<-Ir G]at O;match ifs,B with|[],B=>show GX G.calm (R.i S X tg iter G) (λC s H fp=>R.g _ _ tg<|W C s H fp) (λC s H fp=>GR) (λC s H fp=>R.e _ _ F<|W C s H fp) O G.n rfl (Y2 D) G.nodup h1 h2 h3 B|[c],B=>show GX G.calm (R.i S X tg iter G) (λC s H fp=>R.g _ _ tg<|W C s H fp) (λC s H fp=>GS<|R.t _ _ c<|W C s H fp) (λC s H fp=>R.e _ _ F<|W C s H fp) O G.n rfl (Y2 D) G.nodup h1 h2 h3 B|_::_::_,_=>show j _ λ_ _=>rfl
     .show j _ λ_ _=>rfl
    |[],_=>show j _ λ_ _=>rfl
    |⟨_,_,_,_⟩::_::_,_=>show j _ λ_ _=>rfl
 |_=>cases h
theorem Iz(J)(k)(P):∀(n:Nat)(S:Sc)(X:Cx)(st:gk),Good J k P S X->cU J X st (ex P n S st)
 |0,_,_,_,_=>JB
 |n+1,S,X,st,G=>by
  have D:=λst=>Iz J k P n S X st G
  have E:=xy J k P n;have m:=λe=>E.e S X e G
  cases st with
  |Pass p=>show Rf
  |Break p=>show Rg
  |Continue p=>show Rh
  |Expr e p=>
   change cU J X _ (if QR e then JH (ev P n S e)else cz);split
   .rename_i h;show Ri (m e)<|YL h
   .show JB
  |Return v p=>
   cases v with
   |none=>show Rm
   |some e=>show Rj<|m e
  |If c a b p=>show AE (E.t S X c G) (VR D a)<|VR D b
  |Raise exc Q p=>show Jsd G m
  |Try Y hs o f p=>show Jzt G D
  |While c a o p=>
   cases o with
   |nil=>
    change cU J X _<|BN S.own (my P n S c)<|fB<|a.map<|ex P n S;cases h:S.own with
    |true=>let#[R,C]:=G.top h;show J1e R C (E.t S X c G)<|VR D a
    |false=>show JB
   |cons _ _=>show JB
  |For B W a o p=>
   cases o with
   |nil=>
    change cU J X _ (if XG W&&S.own then bP (sQ P n S B W) (nE P n S B) (fB<|a.map<|ex P n S)else cz);split
    .rename_i h;rw[Zv]at h;let#[R,C]:=G.top h.2;show Rx G.calm R C (E.i S X B W G) (E.g S X B G) (VR D a)<|Y2 h.1
    .show JB
   |cons _ _=>show JB
  |AugAssign B O e p=>
   cases B with
   |Name x q=>
    change cU J X _ (match S.ic x with|some i=>i8 O i (ev P n S e)|none=>cz);cases hv:S.ic x with
    |none=>show JB
    |some i=>let#[H,I,F]:=G.ic hv;show J7z G.nodup (m e) H I F
   |Attribute o f q=>
    change cU J X _ (if P.fld f then XR O f (ev P n S o) (ev P n S e)else cz);split
    .rename_i h;show J5a (m o) (m e)<|G.pg.fld f h
    .show JB
   |Subscript o i q=>
    change cU J X _ (if Xs i then XS O (ev P n S o) (ev P n S i) (ev P n S e)else cz);split
    .rename_i h;show J5b (m o) (m i) (m e) h
    .show JB
   |_=>show JB
  |Assign V e p=>
   match V with
   |[]=>show JB
   |a::_::_=>cases a<;>show JB
   |[B]=>
    have gen:cU J X (.Assign [B] e p) (if QR e&&((xo B&&BO e)||xp B)then ei (ev P n S e) (nE P n S B)else cz):=by
     split
     .rename_i h;simp![Zv,m3]at h;have U:J1 B=Zl:=by
       rcases h.2 with q|q
       .cases B<;>first|rfl|(simp[xo]at q)
       .cases B<;>first|rfl|(simp[xp]at q)
      calc Rq (m e) (E.g S X B G) (YL h.1) ?_<|Jy1 U;rcases h.2 with q|q
      .cases B with
       |Tuple es j pp=>have q2:=q.2;cases e<;>first|rfl|(simp[BO]at q2)
       |_=>simp[xo]at q
      .cases B with
       |Subscript=>cases e<;>rfl
       |_=>simp[xp]at q
     .show JB
    cases B with
    |Name x q=>
     change cU J X _ (if QR e||mB e then(match S.ic x with|some i=>Jl i (ev P n S e)|none=>cz)else cz);split
     .rename_i h;cases hv:S.ic x with
      |none=>show JB
      |some i=>
       let#[H,I,F]:=G.ic hv;rcases m3 _ _▸h with h|h
       .show AF G.nodup (m e) H I (YL h) F
       .show Jw3 G i h H I F
     .show JB
    |Attribute o f q=>
     change cU J X _ (if QR e||mB e then BS P f (ev P n S o) (ev P n S e)else cz);split
     .rename_i h;have hw:qf e (M<|.Attribute o f q) p.line X.env=pure Zm:=by
       rcases m3 _ _▸h with h|h
       .show YL h
       .cases e<;>first|rfl|cases h
      unfold BS;split
      .rename_i C;show RP (m o) (m e) (G.pg.fld f C) hw
      .show JB
     .show JB
    |_=>show gen
  |_=>show JB
end
structure D4 where
 st:gk
 qual:Str
 ps:Tj
 N:Tj
 bI:Tw
abbrev _root_.Wq:=List<|Str×D4
def D4.sc(d:D4):Sc:=#[d.N,(Qm d.st).names,Zl,d.qual]
set_option genInjectivity false in
structure Tab where
 fns:Wq
 oQ:Wq
 meths:List<|Str×Wq
 cons:Wn
 oR:List<|Str×Tj
 kI:Tj
 frees:Tj
 tabs:Tj:=[]
 oS:Tj:=[]
 rl:List (Str×Wh):=[]
 oU:Tj:=[]
 uO:Tj:=[]
 rm:List (Str×Tj):=[]
noncomputable def dC (x:Str):Tj->Bool|[]=>Zm|y::r=>y==x||dC x r
noncomputable def Qb {α:Type}(x:Str):List (Str×α)->Option α|[]=>Z|(y,a)::r=>if y==x then M a else Qb x r
def uP(T:Tab)(f c:Str):Bool:=match Qb f T.rm with|some l=>dC c l|none=>Zm
def oV(T:Tab)(r:D4->Tw->IH->Res IV):Pg where
 fn:=λx=>(Qb x T.fns).map λd=>#[d.ps.length,d.bI,r d]
 cls:=λx=>(Qb x T.oQ).map λd=>#[d.ps.length,d.bI,r d]
 f6:=λc m=>((Qb c T.meths).bind<|Qb m).map λd=>#[d.ps.length,d.bI,r d]
 con:=λx=>Qb x T.cons
 nB:=λx=>(Qb x T.oR).map λl c=>dC c l
 fld:=λx=>dC x T.kI
 free:=λx=>dC x T.frees
 tabs:=λq=>dY q T.tabs
 rz:=λx=>dC x T.oS
 xi:=λbE=>(Qb bE T.rl).map λl c=>Qb c l
 nD:=λx=>dC x T.oU
 ne:=λx=>dC x T.uO
 xf:=uP T
def run(T:Tab):Nat->D4->Tw->IH->Res IV|0,_=>λ_ _=>.stuck|k+1,d=>AL d.N.length<|fB<|(Vd d.st).map<|ex (oV T<|run T k) 40 d.sc
theorem Qy:∀{l:List (Str×α)},Qb x l=M a->(x,a)∈l
 |[],h=>by cases h
 |(y,b)::r,h=>by
  unfold Qb at h;split at h
  .simp_all
  .show Zq _<|Qy h
theorem Xr:∀{l:Tj},dC x l=Zl->x∈l
 |[],h=>by cases h
 |y::r,h=>by
  rcases m3 _ _▸h with e|e
  .simp_all
  .show Zq _<|Xr e
structure bx(K:W.Frag)(x:Str)(d:D4)(fa:ZD)(fd:j5):Prop where
 uQ:∃dV,qN K x d.qual d.st fa fd dV
 sc:dU d.N d.ps<|Qm d.st
 dv:∀j,j<=d.bI.length->∃ds,Qj K fd d.ps ds/\ds.length=d.bI.length-j/\∃O,Vals O ds/\∀Y H,aC K Y H (d.bI.drop j) O
structure gB(J:aN)(T:Tab)(K:W.Frag)(mg:Str->Ta):Prop where
 fn:∀x d,(x,d)∈T.fns->∃fa fd,mg x=M (.ref fa)/\bx K x d fa fd
 cls:∀x d,(x,d)∈T.oQ->∃C fa fd,mg x=M (.ref C)/\J x=M C/\Mk K C fa/\bx K "__init__" d fa fd
 f6:∀c l m d,(c,l)∈T.meths->(m,d)∈l->∃C fa fd,J c=M C/\nk K C/\Meth K C m fa/\bx K m d fa fd
 con:∀x v,(x,v)∈T.cons->∃u y,mg x=M u/\RelV y u/\∀Y H,RV K Y H v y
 nB:∀bE l,(bE,l)∈T.oR->∃c,mg bE=M c/\eR J K c λt=>match t with|.ins c=>M (dC c l)|.exc _=>Z|_=>M Zm
 fld:∀f,f∈T.kI->Yo J K f
 free:∀x,x∈T.frees->mg x=Z
 rz:∀x,x∈T.oS->∃C,mg x=M (.ref C)/\W.nsIn K ZJ x=M (M<|.ref C)/\hX K C
 xi:∀bE l,(bE,l)∈T.rl->∃v,(mg bE=M v\/(mg bE=Z/\kT bE=M v))/\∀c b,(c,b)∈l->∃C,W.nsIn K ZJ c=M (M<|.ref C)/\nu K C/\W.kitOne K (.ref C) v=M b/\W.exmOne K (.ref C) v=M b
 nD:∀x,x∈T.oU->∃C,mg x=M (.ref C)/\kG K C
 ne:∀c,c∈T.uO->∃C,J c=M C/\iZ K C/\W.kitOne K (.ref C) (.type "list")=M Zm
 xf:∀f l c,(f,l)∈T.rm->c∈l->∃C,W.nsIn K ZJ c=M (M<|.ref C)/\qU K C f/\nu K C/\W.findIn K (.ref C) f=M Z
section
variable{J:aN}{T:Tab}{prog:ZW}{w:bo}{K:W.Frag}{mg:Str->Ta}{base:bp}
theorem Jpt:cq prog w K mg base (fR prog w) k fa fd ps (kz J K ps λ_ _=>.stuck):=#[λ_ _ _ _ h=>h.1,λ_ _ _ _ _ _ _ _ _ _ _ _ _ h=>by let#[_,_,_,_,_,_,z]:=h;show z.elim]
def J8l(bD:gB J T K mg):mE K mg (λbE=>(Qb bE T.rl).map λl c=>Qb c l) (uP T):=by
 refine#[λbE g h=>?_,λf c C h m=>?_]
 rotate_left
 .have k:(match Qb f T.rm with|some l=>dC c l|none=>Zm)=Zl:=h;cases j:Qb f T.rm with|none=>rw[j]at k;cases k|some l=>rw[j]at k;let#[D,q,r]:=bD.xf f l c (Qy j)<|Xr k;rw[m]at q;cases q;show r
 let#[l,j,rfl]:=ZL.mp h;let#[v,hv,E]:=bD.xi bE l<|Qy j;calc#[v,hv,λc C b e m=>?_];let#[D,B,F]:=E c b<|Qy e;rw[m]at B;cases B;show F
def J7t(bD:gB J T K mg)(B:T.tabs≠[]->QE mg base)(k)(hD:∀x d fa fd,bx K x d fa fd->sR J prog w K mg base (4*k) #[d.ps.length,d.bI,run T k d] fa fd d.ps):uN J (4*k) (oV T<|run T k) prog w K mg base:=by
 refine#[λx f h=>?_,λx f h=>?_,λc m f h=>?_,λx v h=>?_,λP g h=>?_,λf h=>?_,λx h=>?_,λq j h=>B λe=>?_,λx h=>bD.rz x<|Xr h,J8l bD,λx h=>bD.nD x<|Xr h,λc h=>bD.ne c<|Xr h]
 .let#[d,hd,rfl]:=ZL.mp h;let#[fa,fd,hm,ok]:=bD.fn x d<|Qy hd;let#[Q,F]:=ok.uQ;show#[fa,fd,d.ps,hm,F.kp,hD x d fa fd ok]
 .let#[d,hd,rfl]:=ZL.mp h;let#[C,fa,fd,hm,D,O,ok]:=bD.cls x d<|Qy hd;show#[C,fa,fd,d.ps,hm,D,O,hD _ d fa fd ok]
 .let#[d,hd,rfl]:=ZL.mp h;let#[l,E,hd]:=Option.bind_eq_some_iff.mp hd;let#[C,fa,fd,D,cl,I,ok]:=bD.f6 c l m d (Qy E)<|Qy hd;show#[C,fa,fd,d.ps,D,cl,I,hD m d fa fd ok]
 .show bD.con x v<|Qy h
 .let#[l,E,rfl]:=ZL.mp h;show bD.nB P l<|Qy E
 .show bD.fld f<|Xr h
 .show bD.free x<|Xr h
 .have H:dY q T.tabs=M j:=h;rw[e]at H;cases H
theorem IA(bD:gB J T K mg)(B:T.tabs≠[]->QE mg base):∀k x d fa fd,bx K x d fa fd->sR J prog w K mg base (4*k) #[d.ps.length,d.bI,run T k d] fa fd d.ps
 |0,x,d,fa,fd,ok=>#[rfl,Jpt,ok.dv]
 |k+1,x,d,fa,fd,ok=>by
  calc#[rfl,?_,ok.dv];let#[D,F]:=ok.uQ;refine F.fn ok.sc λC A outer s H E j m=>?_
  calc VR (λst=>Iz J (4*k) (oV T<|run T k) 40 d.sc _ st ?_) _;show#[rfl,rfl,ok.sc.nd,ok.sc.kind,rfl,m.mono 05,λ_ _=>rfl,J7t bD B k<|IA bD B k,λ_=>#[j,rfl],λ_=>m,λ_=>#[rfl,rfl]]
end
inductive All{α:Type}(p:α->Prop):List α->Prop|nil:All p []|cons {a:α}{l:List α}:p a->All p l->All p (a::l)
theorem All.mem:∀{l:List α}{a:α},All p l->a∈l->p a
 |_,_,.nil,h=>by cases h
 |_,_,.cons h r,m=>by
  rcases ZC.mp m with rfl|m
  .show h
  .show r.mem m
def Xw(l:Tj):Ty->Wv:=λt=>match t with|.ins c=>M (dC c l)|.exc _=>Z|_=>M Zm
section
variable{T:Tab}{K:W.Frag}{mg:Str->Ta}
def fE(ces:Wp):aN:=λc=>Qb c ces
def J5n(ces)(fn:All (λp:Str×D4=>∃fa fd,mg p.1=M (.ref fa)/\bx K p.1 p.2 fa fd) T.fns) (cls:All (λp:Str×D4=>∃C fa fd,mg p.1=M (.ref C)/\fE ces p.1=M C/\Mk K C fa/\bx K "__init__" p.2 fa fd) T.oQ) (f6:All (λq:Str×Wq=>∃C,fE ces q.1=M C/\All (λp:Str×D4=>∃fa fd,Meth K C p.1 fa/\bx K p.1 p.2 fa fd) q.2) T.meths) (con:All (λp:Str×IV=>∃u y,mg p.1=M u/\RelV y u/\∀Y H,RV K Y H p.2 y) T.cons) (cl:All (λp:Str×ZD=>iZ K p.2/\All (λf=>QZ K p.2 f) T.kI) ces) (nB:All (λq:Str×Tj=>∃bE,mg q.1=M (.ref bE)/\W.kitOne K (.type "NoneType") (.ref bE)=M Zm/\W.kitOne K (.type "bool") (.ref bE)=M Zm/\W.kitOne K (.type "int") (.ref bE)=M Zm/\W.kitOne K (.type "str") (.ref bE)=M Zm /\ W.kitOne K (.type "list") (.ref bE)=M Zm/\W.kitOne K (.type "tuple") (.ref bE)=M Zm/\W.kitOne K (.type "dict") (.ref bE)=M Zm/\All (λp:Str×ZD=>W.kitOne K (.ref p.2) (.ref bE)=M (dC p.1 q.2)) ces) T.oR) (free:All (λx=>mg x=Z) T.frees) (F:All (λx=>∃C,mg x=M (.ref C)/\W.nsIn K ZJ x=M (M<|.ref C)/\hX K C) T.oS:=by show .nil) (rl:All (λq:Str×Wh=>∃v,(mg q.1=M v\/(mg q.1=Z/\kT q.1=M v))/\All (λp:Str×Bool=>∃C,W.nsIn K ZJ p.1=M (M<|.ref C)/\nu K C/\W.kitOne K (.ref C) v=M p.2/\W.exmOne K (.ref C) v=M p.2) q.2) T.rl:=by show .nil) (nD:All (λx=>∃C,mg x=M (.ref C)/\kG K C) T.oU:=by show .nil) (uO:All (λc=>∃C,fE ces c=M C/\W.kitOne K (.ref C) (.type "list")=M Zm) T.uO:=by show .nil) (rm:All (λq:Str×Tj=>All (λc=>∃C,W.nsIn K ZJ c=M (M<|.ref C)/\qU K C q.1/\nu K C/\W.findIn K (.ref C) q.1=M Z) q.2) T.rm:=by show .nil):gB (fE ces) T K mg:=by
 refine#[λx d h=>fn.mem h,λx d h=>cls.mem h,λc l m d j hm=>?_,λx v h=>con.mem h,λbE l h=>?_,λf O=>?_,λx h=>free.mem h,λx h=>F.mem h,λbE l h=>?_,λx h=>nD.mem h,λc h=>let ⟨C,p,r⟩:=uO.mem h;#[C,p,(cl.mem<|Qy p).1,r],λf l c h j=>(rm.mem h).mem j]
 .let#[C,B,I]:=f6.mem j;let#[fa,fd,V,ok]:=I.mem hm;show#[C,fa,fd,B,(cl.mem<|Qy B).1.cl,V,ok]
 .let#[C,B,D,E,P,X,h5,S,R,Q]:=nB.mem h;refine#[_,B,#[λb e=>?_,λb e=>?_,λb e=>?_,λb e=>?_,λb e=>?_,λb e=>?_,λb e=>?_,λk U b e J=>?_,(λk U b e=>by cases e)]]
  .cases e;show D
  .cases e;show E
  .cases e;show P
  .cases e;show X
  .cases e;show h5
  .cases e;show S
  .cases e;show R
  .cases e;show#[(cl.mem<|Qy J).1,Q.mem<|Qy J]
 .intro c C e;let#[D,E]:=cl.mem<|Qy e;show#[D.cl,E.mem O]
 .let#[v,hv,I]:=rl.mem h;show#[v,hv,λc b j=>I.mem j]
theorem lZ{P:List α->Prop}(j:∀a,P [a]):∀us:List α,us.length=1->P us|[a],_=>j a
theorem BY{P:List α->Prop}(j:∀a b,P [a,b]):∀us:List α,us.length=2->P us|[a,b],_=>j a b
theorem BZ{P:List α->Prop}(j:∀a b c,P [a,b,c]):∀us:List α,us.length=3->P us|[a,b,c],_=>j a b c
theorem B0{P:List α->Prop}(j:∀a b c d,P [a,b,c,d]):∀us:List α,us.length=4->P us|[a,b,c,d],_=>j a b c d
theorem uR{P:List α->Prop}(j:∀a b c d e f g,P [a,b,c,d,e,f,g]):∀us:List α,us.length=7->P us|[a,b,c,d,e,f,g],_=>j a b c d e f g
noncomputable def jI (N P:Tj)(sc:eO):Bool:=sc.kind==.function&&!sc.isCoroutine&&!sc.isGenerator&&decide N.Nodup&&decide (N.take P.length=P)&&P.all (λx=>sc.names.lookup x==M .local||sc.names.lookup x==M .cell)&&sc.names.all (λy=>!(y.2==.free))
def jI.of(h:jI N P sc=Zl):dU N P sc:=by simp![jI,Zv,beq_iff_eq,sA,decide_eq_true_eq,pN,m3,beq_eq_false_iff_ne]at h;let#[#[#[#[#[#[h1,h2],h3],h4],h5],h6],h7]:=h;show#[h1,h2,h3,h4,h5,h6,h7]
def J0e(bD:gB J T K mg)(B:T.tabs≠[]->QE mg base)(k)(hp:d.ps=[x])(ok:bx K "law" d fa fd):cq prog w K mg base (fR prog w) (4*k) fa fd [x] (XW K x<|run T k d):=by have:=(IA (prog:=prog) (w:=w) bD B k "law" d fa fd ok).ok;rw[hp]at this;show R0 this
end
def WR{α:Type}(r:Res α)(Q:α->IH->Prop):Prop:=match r with|.ok a h=>Q a h|_=>False
def WS(r:cf)(N:aE->IH->Prop)(R:IV->IH->Prop):Prop:=match r with|.next U h=>N U h|.ret v h=>R v h|_=>False
section
variable{α β:Type}{U:aE}{h:IH}{Q:α->IH->Prop}{N:aE->IH->Prop}{R:IV->IH->Prop}
def WR.mono(x:WR r P)(f:∀a h,P a h->Q a h):WR r Q:=by cases r with|ok a h=>show f a h x|exc n h=>show x|stuck=>show x
def Jf(e:r=.ok a h)(q:Q a h):WR r Q:=by rw[e];show q
def WR.eq(x:WR r Q):∃a h,r=.ok a h/\Q a h:=by cases r with|ok a h=>show#[a,h,rfl,x]|exc n h=>show x.elim|stuck=>show x.elim
def WS.mono(x:WS r N R)(f:∀U h,N U h->N' U h)(g:∀v h,R v h->R' v h):WS r N' R':=by cases r with|next U h=>show f U h x|ret v h=>show g v h x|_=>show x
theorem Yd(a):WR (.ok a h) Q=Q a h:=rfl
theorem Jxm:WR (.stuck:Res α) Q=False:=rfl
def J8(r)(f:α->IH->Res β)(Q):WR (r.bind f) Q=WR r λa h=>WR (f a h) Q:=by cases r<;>rfl
def QX(c)[Decidable c](x y):WR (if c then x else y) Q=((c->WR x Q)/\(¬c->WR y Q)):=by by_cases j:c<;>simp[j]
def Vt(r:Res α)(k):WS (rS U r k) N R=WR r λa h=>WS (k a h) N R:=by cases r<;>rfl
def J5u(r)(Q):WR r.fin Q=WS r (λ_ h=>Q .aw h) Q:=by cases r with|exc n U h=>change WR (match h[n]? with|some (.exc _ _)=>Res.exc n h|_=>Res.stuck) Q=False;split<;>rfl|_=>rfl
def J57(a b):WS (Jg a b U h) N R=WS (a U h) (λj h1=>WS (b j h1) N R) R:=by unfold Jg;cases a U h<;>rfl
def J58(i)(e):WS (Jl i e U h) N R=WR (e U h) λv h1=>N (U.set i<|M v) h1:=by unfold Jl;rw[Vt];rfl
def J8d(t)(a b):WS (aU t a b U h) N R=WR (t U h) λc h1=>(c=Zl->WS (a U h1) N R)/\(c=Zm->WS (b U h1) N R):=by unfold aU;rw[Vt];congr 1;funext c h1;cases c<;>simp
def J2j(e):WS (Jj e U h) N R=WR (e U h) R:=by unfold Jj;rw[Vt];rfl
def J2h(e):WS (JH e U h) N R=WR (e U h) λ_ h1=>N U h1:=by unfold JH;rw[Vt];rfl
def Yf(e)(g):WS (ei e g U h) N R=WR (e U h) λv h1=>WS (g v U h1) N R:=by unfold ei;rw[Vt]
def YS(f)(o e):WS (JL f o e U h) N R=WR (e U h) λv h1=>WR (o U h1) λD h2=>∃i c fs,D=.ref i/\h2[i]?=M (.ins c fs)/\fs.length<1000/\N U (h2.set i<|.ins c<|bG f v fs):=by
 unfold JL;rw[Vt];congr 1;funext v h1;rw[Vt];congr 1;funext D h2;cases D with
 |ref i=>
  cases e:h2[i]? with|none=>simp[WS,e]|some o=>
   cases o with
   |ins c fs=>
    by_cases k:fs.length<1000
    .simp only[e,k];calc propext #[λq=>#[i,c,fs,rfl,e,k,q],λ⟨E,F,m,C,j,_,q⟩=>?_];cases C;rw[e]at j;cases j;show q
    .simp only[e,k];calc propext #[λq=>q.elim,λ⟨E,F,m,C,j,B,_⟩=>?_];cases C;rw[e]at j;cases j;show k B
   |_=>simp[WS,e]
 |_=>simp[WS]
def IB(it)(g)(b):WS (bP it g b U h) N R=WR (it U h) λbB h1=>WS (Qr bB.bK g b bB.xs U h1) N R:=by unfold bP;rw[Vt]
theorem V8(v)(Q):WR (eC v U h) Q=Q v h:=rfl
def YN(f)(a b)(Q):WR (Jc f a b U h) Q=WR (a U h) λx h1=>WR (b U h1) λy h2=>WR (f x y h2) Q:=by unfold Jc;rw[J8];congr 1;funext x h1;rw[J8]
def J8c(t)(a b)(Q):WR (oy t a b U h) Q=WR (t U h) λc h1=>(c=Zl->WR (a U h1) Q)/\(c=Zm->WR (b U h1) Q):=by unfold oy;rw[J8];congr 1;funext c h1;cases c<;>simp
def J2f(a b)(Q):WR (Qs a b U h) Q=WR (a U h) λc h1=>(c=Zl->WR (b U h1) Q)/\(c=Zm->Q Zm h1):=by unfold Qs;rw[J8];congr 1;funext c h1;cases c<;>simp[WR]
def Jxg(f g)(a b c)(Q):WR (JO f g a b c U h) Q=WR (a U h) λx h1=>WR (b U h1) λy h2=>WR (f x y h2) λk h3=>∃t,k=.bl t/\(t=Zl->WR (c U h3) λz j=>WR (g y z j) Q)/\(t=Zm->Q (.bl Zm) h3):=by
 unfold JO;rw[J8];congr 1;funext x h1;rw[J8];congr 1;funext y h2;rw[J8];congr 1;funext k h3;cases k with
 |bl t=>cases t with|true=>rw[J8];simp|false=>simp[WR]
 |_=>simp[WR]
def Jxf(a)(r)(Q):WR (Jb a r U h) Q=WR (a U h) λx h1=>WR (r U h1) λxs h2=>Q (x::xs) h2:=by unfold Jb;rw[J8];congr 1;funext x h1;rw[J8];rfl
def J54(a)(Q):WR (bO a U h) Q=WR (a U h) λxs h1=>xs.length<=sizeLine/\Q (.tup xs) h1:=by unfold bO;rw[J8];congr 1;funext xs h1;rw[QX];by_cases j:xs.length<=sizeLine<;>simp[j,WR]
def J51(a)(Q):WR (J0 a U h) Q=WR (a U h) λxs h1=>xs.length<=sizeLine/\Q (.ref h1.length) (h1++[.lst xs]):=by unfold J0;rw[J8];congr 1;funext xs h1;rw[QX];by_cases j:xs.length<=sizeLine<;>simp[j,WR]
def YO(f)(d)(a)(Q):WR (Jk f d a U h) Q=WR (a U h) λO h1=>WR (f (O++d) h1) Q:=by unfold Jk;rw[J8]
def Yc(c)(f)(d)(a)(Q):WR (Qx c f d a U h) Q=WR (a U h) λO h1=>WR (f (.ref h1.length::(O++d))<|h1++[.ins c []]) λr h2=>r=.aw/\Q (.ref h1.length) h2:=by unfold Qx;rw[J8];congr 1;funext O h1;rw[J8];congr 1;funext r h2;cases r<;>simp[WR]
def J8b(f)(a)(Q):WR (aR f a U h) Q=WR (a U h) λO h1=>WR (f O h1) Q:=by unfold aR;rw[J8]
theorem B1(f)(x)(Q):WR (aP f [x] h) Q=WR (f x h) Q:=rfl
def J5w(ans)(e)(Q):WR (cw ans e U h) Q=WR (e U h) λv h1=>∃b,(g9 v h1).bind ans=M b/\Q (.bl b) h1:=by unfold cw;rw[J8];congr 1;funext v h1;cases (g9 v h1).bind ans<;>simp[WR]
def YR(f)(e)(lo D)(Q):WR (lu f e lo D U h) Q=WR (e U h) λx h1=>WR (lo U h1) λl h2=>WR (D U h2) λu h3=>WR (f x l u h3) Q:=by unfold lu;rw[J8];congr 1;funext x h1;rw[J8];congr 1;funext l h2;rw[J8]
noncomputable def VH (f:Str)(v:IV)(h:IH):Te:=match v with|.ref i=>(match h[i]? with|some (.ins _ fs)=>fs.lookup f|_=>Z)|_=>Z
def J5v(f)(o)(Q):WR (Jm f o U h) Q=WR (o U h) λv h1=>∃x,VH f v h1=M x/\Q x h1:=by
 unfold Jm;rw[J8];congr 1;funext v h1;cases v with
 |ref i=>
  unfold VH;cases e:h1[i]? with|none=>simp[WR,e]|some ob=>cases ob with|ins c fs=>cases j:fs.lookup f<;>simp[WR,e,j]|_=>simp[WR,e]
 |_=>simp[WR,VH]
variable{i j:Int}{x y:Str}{P:IV->IH->Prop}
def J53(i j):WR (Qc (.int i) (.int j) h) P=(QY i j/\P (.int<|i*j) h):=by change WR (XH (.int i) (.int j) h) P=_;unfold XH;rw[QX];by_cases hm:QY i j<;>simp[hm,WR]
def J18(i j):WR (JG (.int i) (.int j) h) P=((0<j/\j.natAbs.log2<9000)/\P (.int<|i/j) h):=by unfold JG;rw[QX];by_cases hm:0<j/\j.natAbs.log2<9000<;>simp[hm,WR]
def J52(i j):WR (J9 (.int i) (.int j) h) P=(0<j/\P (.int<|i%j) h):=by unfold J9;rw[QX];by_cases hm:0<j<;>simp[hm,WR]
def xD(i j):WR (JK (.int i) (.int j) h) P=((0<=j/\j<=1000000/\i.natAbs<2^64)/\P (.int<|i^j.toNat) h):=by unfold JK;rw[QX];by_cases hm:0<=j/\j<=1000000/\i.natAbs<2^64<;>simp[hm,WR]
def J13(x y):WR (Jr (.str x) (.str y) h) P=(x.length+y.length<=sizeLine/\P (.str<|x++y) h):=by unfold Jr;rw[QX];by_cases hm:x.length+y.length<=sizeLine<;>simp[hm,WR]
theorem J50(x y):WR (dr (.str x) (.str y) h) P=P (.bl (!decide (y.cps.toList<x.cps.toList))) h:=rfl
def JZ(I:Nat->aE->IH->Prop)(O:∀i U h,I i U h->bK h) (turn:∀i (D:i<xs.length) U h,I i U h->WS (g xs[i] U h) (λH h1=>WS (b H h1) (I<|i+1) R) λ_ _=>False)(done:∀U h,I xs.length U h->N U h)(start:I 0 U h):WS (Qr bK g b xs U h) N R:=by
 have J:∀(n i:Nat)(U:aE)(h:IH),xs.length-i=n->i<=xs.length->I i U h->WS (Qr bK g b (xs.drop i) U h) N R:=by
  intro n;induction n with|zero=>intro i U h hn D F;have:i=xs.length:=05;subst this;rw[List.drop_length];unfold Qr;rw[if_pos<|O _ _ _ F];show done _ _ F|succ n P=>
   intro i U h hn D F;have B:i<xs.length:=rF 06;rw[tG B];unfold Qr;rw[if_pos<|O _ _ _ F];have t:=turn i B U h F;cases eg:g xs[i] U h with
   |next H h1=>rw[eg]at t;have j:WS (b H h1) (I<|i+1) R:=t;dsimp only;cases E:b H h1 with|next C k=>rw[E]at j;show P (i+1) C k (congrArg rM 06) B j|ret v k=>rw[E]at j;show j|brk C k=>rw[E]at j;show j.elim|cont C k=>rw[E]at j;show j.elim|exc m C k=>rw[E]at j;show j.elim|stuck=>rw[E]at j;show j.elim
   |ret v h1=>rw[eg]at t;show t.elim
   |brk C k=>rw[eg]at t;show t.elim
   |cont C k=>rw[eg]at t;show t.elim
   |exc m C k=>rw[eg]at t;show t.elim
   |stuck=>rw[eg]at t;show t.elim
 have:=J xs.length 0 U h 04 (ZF _) start;simpa using this
end
section
variable{α:Type}{h h1:IH}{a:α}{r:Res α}{P:IV->IH->Prop}
def Js(x:WR r λv h'=>v=a/\h'=h1):r=.ok a h1:=by let#[_,_,e,rfl,rfl]:=x.eq;show e
def J5z(xs)(n):WR (Jh (.tup xs) (.int n) h) P=∃x,bq xs n=M x/\P x h:=by unfold Jh;cases e:bq xs n<;>simp[WR,e]
def J5y(xs)(n):WR (Jh (.cJ xs) (.int n) h) P=∃x,bq xs n=M x/\P x h:=by unfold Jh;cases e:bq xs n<;>simp[WR,e]
def J5x(i)(n):WR (Jh (.ref i) (.int n) h) P=∃xs,h[i]?=M (.lst xs)/\∃x,bq xs n=M x/\P x h:=by
 unfold Jh;cases e:h[i]? with|none=>simp[WR,e]|some o=>cases o with|lst xs=>cases j:bq xs n<;>simp[WR,e,j]|_=>simp[WR,e]
def J2a(i):WR (aT (.ref i) h) P=∃xs,h[i]?=M (.lst xs)/\P (.int xs.length) h:=by unfold aT;cases e:h[i]? with|none=>simp[WR,e]|some o=>cases o<;>simp[WR,e]
def IC(x):WR (aT (.str x) h) P=(x.length<=sizeLine/\P (.int x.length) h):=by unfold aT;rw[QX];by_cases hm:x.length<=sizeLine<;>simp[hm,WR]
def JI{n:Nat}(e:xs[n]?=M x):bq xs (n:Int)=M x:=by have hn:=(Zs.mp e).1;have:(n:Int)<xs.length:=zo.mpr 06;simp[bq,ki,this,e]
def Qa:bq (x::xs) 0=M x:=by simp[bq,ki]
theorem JN:bq (x::y::xs) 1=M y:=JI rfl
theorem Ql:bq (x::y::z::xs) 2=M z:=JI rfl
theorem Vb:bq (x::y::z::u::xs) 3=M u:=JI rfl
theorem Yt:bq (x::y::z::u::v::xs) 4=M v:=JI rfl
def B5(h0:0<=n)(e:xs[n.toNat]?=M x):bq xs n=M x:=by have:=JI e;rwa [sC h0]at this
def xF(e:h[i]?=M (.lst xs)):g9 (.ref i) h=M .lst:=by simp[g9,e]
def grow{i:Nat}(e:h[i]?=M o):(h++g)[i]?=M o:=by rw[ZU (Zs.mp e).1];show e
theorem grown:(h++[o])[h.length]?=M o:=03
theorem JF(e:h[i]?=M o):i<h.length:=(Zs.mp e).1
theorem ID(f):∀xs:Tw,Xz (xs.map λx=>.bl<|f x)=M (xs.map f)|[]=>rfl|x::xs=>by simp[Xz,ID f xs]
def all_map{xs:Tw}(e:h[i]?=M (.lst<|xs.map λx=>.bl<|f x)):allI (.ref i) h=.ok (.bl<|xs.all f) h:=by simp[allI,e,ID]
end
def Ex(h h':IH):Prop:=∃g,h'=h++g
theorem Ex.refl(h):Ex h h:=#[[],03]
def Ex.trans(a:Ex h h1)(b:Ex h1 h2):Ex h h2:=by let#[g,rfl]:=a;let#[j,rfl]:=b;show#[g++j,03]
def Ex.get(a:Ex h h'){i:Nat}(e:h[i]?=M o):h'[i]?=M o:=by let#[g,rfl]:=a;show grow e
theorem Ex.one(h)(o):Ex h (h++[o]):=#[[o],rfl]
def Ex.len(a:Ex h h'):h.length<=h'.length:=by let#[g,rfl]:=a;simp
section
variable{α:Type}{h:IH}
theorem B6(i0):∀{xs acc:Tw}{o:Te}{h1:IH},h1[i0]?=M (.lst acc)->(∀h2,(∀j ob,j≠i0->h1[j]?=M ob->h2[j]?=M ob)->bK h2)->acc.length+xs.length<sizeLine ->(∀x∈xs,∀h2,(∀j ob,j≠i0->h1[j]?=M ob->h2[j]?=M ob)->WR (t (M x::caps) h2) λb h3=>b=p x/\Ex h2 h3) ->(∀x∈xs,p x=Zl->∀h2,(∀j ob,j≠i0->h1[j]?=M ob->h2[j]?=M ob)->WR (e (M x::caps) h2) λv h3=>v=f x/\Ex h2 h3) ->WR (JS bK (aF 0) t e i0 xs (o::caps) h1) λv h3=>v=.ref i0/\∃g,h3=h1.set i0 (.lst<|acc++(xs.filter p).map f)++g
 |[],acc,o,h1,D,hc,_,_,_=>by
  unfold JS;rw[if_pos<|hc h1 λ_ _ _ q=>q];calc#[rfl,[],?_];simp;calc(pL λj=>?_);by_cases J:j=i0
  .subst J;rw[D,jw<|JF D]
  .rw[iy<|ZV J]
 |x::xs,acc,o,h1,D,hc,hl,ht,he=>by
  unfold JS;rw[if_pos<|hc h1 λ_ _ _ q=>q];dsimp only[aF,vH];have I:acc.length+xs.length+1<sizeLine:=by simpa[qa]using hl
  let#[b,h2,P,rfl,B]:=(ht x ZA h1 λ_ _ _ q=>q).eq;rw[P];have k:∀j ob,j≠i0->h1[j]?=M ob->h2[j]?=M ob:=λj ob _ q=>B.get q
  cases hp:p x with
  |false=>
   dsimp only;refine WR.mono (B6 i0 (B.get D) (λh3 q=>hc h3 λj ob n r=>q j ob n<|k j ob n r) (fM 06) (λy C h3 q=>ht y (Zq _ C) h3 λj ob n r=>q j ob n<|k j ob n r) λy C m h3 q=>he y (Zq _ C) m h3 λj ob n r=>q j ob n<|k j ob n r) λv h3 ⟨ev,g,eg⟩=>#[ev,?_]
   let#[g2,rfl]:=B;calc#[g2++g,?_];rw[eg,nQ (h:=JF D)];simp[hp]
  |true=>
   dsimp only;let#[v,h3,Q,rfl,H]:=(he x ZA hp h2 k).eq;rw[Q];dsimp only;rw[H.get<|B.get D];dsimp only;rw[if_pos<|ZP (Zd _ _) 06];have E:∀j ob,j≠i0->h1[j]?=M ob->(h3.set i0<|.lst<|acc++[f x])[j]?=M ob:=λj ob n q=>by rw[iy<|ZV n];show H.get<|B.get q
   refine WR.mono (B6 i0 (acc:=acc++[f x]) (by rw[jw<|JF<|H.get<|B.get D]) (λF q=>hc F λj ob n r=>q j ob n<|E j ob n r) (by simp;(rw[mQ];show I)) (λy C F q=>ht y (Zq _ C) F λj ob n r=>q j ob n<|E j ob n r) λy C m F q=>he y (Zq _ C) m F λj ob n r=>q j ob n<|E j ob n r) λv F ⟨ev,g,eg⟩=>#[ev,?_]
   let#[O,R]:=B.trans H;calc#[O++g,?_];rw[eg,R,nQ (h:=JF D),nQ (h:=by rw[qn];show JF D),vO];simp[hp]
def xG(m:WR (it U h0) λbB h1=>bB.xs=xs/\bB.bK=bK/\h1=h)(hl:xs.length<sizeLine) (D:∀h2:IH,(∀(j:Nat)(ob:IX),h[j]?=M ob->h2[j]?=M ob)->bK h2) (B:∀x∈xs,∀h2:IH,(∀(j:Nat)(ob:IX),h[j]?=M ob->h2[j]?=M ob)->WR (t (M x::js.map λj=>(U[j]?).join) h2) λb h3=>b=p x/\Ex h2 h3) (H:∀x∈xs,p x=Zl->∀h2:IH,(∀(j:Nat)(ob:IX),h[j]?=M ob->h2[j]?=M ob)->WR (e (M x::js.map λj=>(U[j]?).join) h2) λv h3=>v=f x/\Ex h2 h3):WR (Jv it 1 js (aF 0) t e U h0) λv h3=>v=.ref h.length/\∃g,h3=h++.lst ((xs.filter p).map f)::g:=by
 let#[bB,h1,E,C,F,rfl]:=m.eq;unfold Jv;rw[E];change WR (JS bB.bK (aF 0) t e h1.length bB.xs (Z::js.map λj=>(U[j]?).join)<|h1++[.lst []]) _;rw[C,F];have k:∀{h2:IH},(∀j ob,j≠h1.length->(h1++[IX.lst []])[j]?=M ob->h2[j]?=M ob)->∀j ob,h1[j]?=M ob->h2[j]?=M ob:=λq j ob r=>q j ob (Zw<|JF r)<|grow r
 refine WR.mono (B6 h1.length grown (λh2 q=>D h2<|k q) (by simpa using hl) (λx hx h2 q=>B x hx h2<|k q) λx hx hp h2 q=>H x hx hp h2<|k q) λv h3 ⟨ev,g,eg⟩=>#[ev,g,?_]
 rw[eg];simp
theorem B7(xs:List α):xs.filter (λ_=>Zl)=xs:=List.filter_eq_self.mpr 03
def Qt(k:WR (it U h0) λbB h1=>bB.xs=xs/\bB.bK=bK/\h1=h)(hl:xs.length<sizeLine) (m:∀h2:IH,(∀(j:Nat)(ob:IX),h[j]?=M ob->h2[j]?=M ob)->bK h2) (B:∀x∈xs,∀h2:IH,(∀(j:Nat)(ob:IX),h[j]?=M ob->h2[j]?=M ob)->WR (e (M x::js.map λj=>(U[j]?).join) h2) λv h3=>v=f x/\Ex h2 h3):WR (Jv it 1 js (aF 0) J2 e U h0) λv h3=>v=.ref h.length/\∃g,h3=h++.lst (xs.map f)::g:=by
 have:=xG (t:=J2) k hl m (λ_ _ h2 _=>#[rfl,.refl _]) λx hx _ h2 q=>B x hx h2 q
 rwa [B7]at this
theorem Jz:(h++o::g)[h.length]?=M o:=03
theorem Ex.cons(h)(o)(g):Ex h (h++o::g):=#[_,rfl]
end
section
variable{U:aE}{h h1:IH}{Q:IV->IH->Prop}{bB:ky->IH->Prop}
def JC(e):WR (Jq e U h) bB=WR (e U h) λv h1=>WR (wV v h1) bB:=by unfold Jq;rw[J8]
def Vs(f)(a):WR (dM f a U h) bB=WR (a U h) λO h1=>WR (f O h1) bB:=by unfold dM;rw[J8]
def JM(i):WR (wV (.ref i) h) bB=∃xs,h[i]?=M (.lst xs)/\bB #[xs,λh'=>h'[i]?=M (.lst xs)] h:=by change WR (iY (.ref i) h) bB=_;unfold iY;cases e:h[i]? with|none=>simp[WR,e]|some o=>cases o<;>simp[WR,e]
theorem YQ(xs):WR (wV (.tup xs) h) bB=bB #[xs,λ_=>True] h:=rfl
def B8(i):WR (QJ [.ref i] h) bB=∃xs,h[i]?=M (.lst xs)/\bB #[Qn 0 xs,λh'=>h'[i]?=M (.lst xs)] h:=by change WR (Vz [.ref i] h) bB=_;unfold Vz;cases e:h[i]? with|none=>simp[WR,e]|some o=>cases o<;>simp[WR,e]
theorem Jxi(xs):WR (QJ [.tup xs] h) bB=bB #[Qn 0 xs,λ_=>True] h:=rfl
def Ye(j):WR (Qh [.int j] h) bB=((-(2^62)<=j/\j<2^62)/\bB #[aZ 0 j,λ_=>True] h):=by unfold Qh;rw[QX];show propext #[λ⟨a,b⟩=>(Classical.em _).elim (λq=>#[q,a q]) λq=>(b q).elim,λ⟨a,b⟩=>#[λ_=>b,λq=>absurd a q]]
def JQ(i j):(aZ i j).length=(j-i).toNat:=by simp[aZ]
def QA(i j)(n)(hn:n<(aZ i j).length):(aZ i j)[n]=.int (i+n):=by simp[aZ]
def B9(xs)(n:Nat)(hn):(Qn 0 xs)[n]=.tup [.int n,xs[n]'(by rwa [Ve]at hn)]:=by have:=Y0 xs 0 n;rw[Zh hn,Zh<|by rwa [Ve]at hn]at this;simpa using this
def xH(i)(lo D):WR (l7 (.ref i) lo D h) Q=∃xs,h[i]?=M (.lst xs)/\Q (.ref h.length) (h++[.lst<|g0 xs lo D]):=by unfold l7;cases e:h[i]? with|none=>simp[WR,e]|some o=>cases o<;>simp[WR,e]
theorem IE(n d):HT.fZ n d Z=d:=HT.lV n d
def IF(xs:List α)(n:Nat):g0 xs Z (M (n:Int))=xs.take n:=by unfold g0;rw[IE,HT.jV];simp
def IG(xs:List α)(n:Nat):g0 xs (M (n:Int)) Z=xs.drop n:=by
 unfold g0;rw[IE,HT.jV];by_cases hn:n<=xs.length
 .rw[mS hn];show lJ 03
 .rw[Nat.min_eq_right<|Zo<|gh hn,List.drop_length,yY<|Zo<|gh hn];simp
variable{P:Pg}{m:Str}{n i:Nat}{o:E1}{a:A1}{xs:Tw}{c:Str}{fs:Wn}
def J16(e:o U h=.ok (.ref i) h1)(hl:h1[i]?=M (.lst xs))(j:dN "list" m n=M g):WR (Ju P m n o a U h) Q=WR (a U h1) λO h2=>WR (g (.ref i) O h2) Q:=by
 unfold Ju;rw[e];have D:VI (.ref i) h1=Zm:=by simp[VI,hl]
 have k:pZ (.ref i) h1="list":=by simp[pZ,hl]
 dsimp only;rw[D,k,j];rw[if_neg Zz];unfold qQ;rw[e,J8,Yd];have:dX "list" (.ref i) h1=Zl:=by simp[dX,hl]
 rw[if_pos this,J8]
def II(e:o U h=.ok (.ref i) h1)(D:h1[i]?=M (.ins c fs))(k:fs.lookup m=Z)(hd:JX P m n c=M (f,d)):WR (Ju P m n o a U h) Q=WR (a U h1) λO h2=>WR (f (.ref i::(O++d)) h2) Q:=by
 unfold Ju;rw[e];have j:VI (.ref i) h1=Zl:=by simp[VI,D]
 dsimp only;rw[j,if_pos rfl];unfold wG;rw[e,J8,Yd];dsimp only;rw[D];dsimp only;rw[hd,k];rw[J8]
def Jul(y):WR (Xg (.ref i) [y] h) Q=∃xs,h[i]?=M (.lst xs)/\xs.length<sizeLine/\Q .aw (h.set i<|.lst<|xs++[y]):=by
 unfold Xg;cases e:h[i]? with|none=>simp[WR,e]|some ob=>cases ob with|lst xs=>by_cases j:xs.length<sizeLine<;>simp[WR,e,j]|_=>simp[WR,e]
theorem VD:dN "list" "append" 1=M Xg:=02
def Q8(e:h[i]?=M (.ins c fs)):VH f (.ref i) h=fs.lookup f:=by simp[VH,e]
def Jxj:WR (Vl (.ref i) h) Q=∃xs,h[i]?=M (.lst xs)/\Q (.ref h.length) (h++[.lst xs]):=by unfold Vl;cases e:h[i]? with|none=>simp[WR,e]|some ob=>cases ob<;>simp[WR,e]
def IJ:WR (VZ (.ref i) h) Q=∃xs,h[i]?=M (.lst xs)/\Q (.tup xs) h:=by unfold VZ;cases e:h[i]? with|none=>simp[WR,e]|some ob=>cases ob<;>simp[WR,e]
end
section
variable{U:aE}{h:IH}{Q:IV->IH->Prop}
def IK(i j):WR (Jr (.ref i) (.ref j) h) Q=∃xs,h[i]?=M (.lst xs)/\∃ys,h[j]?=M (.lst ys)/\xs.length+ys.length<=sizeLine/\Q (.ref h.length) (h++[.lst<|xs++ys]):=by
 unfold Jr;dsimp only;split
 .rename_i xs ys e m;rw[QX];refine propext #[λ⟨a,b⟩=>?_,λ⟨C,f,B,k,l,q⟩=>?_]
  .by_cases l:xs.length+ys.length<=sizeLine
   .show#[xs,e,ys,m,l,a l]
   .show(b l).elim
  .rw[e]at f;rw[m]at k;cases f;cases k;show#[λ_=>q,λn=>absurd l n]
 .rename_i D;show propext #[kc,λ⟨xs,f,ys,k,_⟩=>(D xs ys f k).elim]
def J2e(i):WR (hi (.int i) h) Q=(i.natAbs.log2<1920/\Q (.str<|toString i) h):=by unfold hi;rw[QX];simp![Yd,Jxm,imp_false,Decidable.not_not,eq_iff_iff];show#[λ⟨a,b⟩=>#[b,a b],λ⟨a,b⟩=>#[λ_=>b,a]]
end
section
variable{U:aE}{h h1:IH}{Q:IV->IH->Prop}{P:Pg}{m:Str}{n i:Nat}{o:E1}{a:A1}{x:Str}
def J17(e:o U h=.ok (.str x) h1)(j:dN "str" m n=M g):WR (Ju P m n o a U h) Q=WR (a U h1) λO h2=>WR (g (.str x) O h2) Q:=by unfold Ju;rw[e];have D:VI (.str x) h1=Zm:=rfl;have k:pZ (.str x) h1="str":=rfl;dsimp only;rw[D,k,j];rw[if_neg Zz];unfold qQ;rw[e,J8,Yd];have:dX "str" (.str x) h1=Zl:=rfl;rw[if_pos this,J8]
theorem Jy6:dN "str" "join" 1=M XB:=02
theorem IL:dN "list" "extend" 1=M X9:=02
def J19:WR (XB (.str x) [.ref i] h) Q=∃xs,h[i]?=M (.lst xs)/\∃zs,QC xs=M zs/\JoinOk x zs=Zl/\Q (.str<|Txt.join x zs) h:=by
 unfold XB;cases e:h[i]? with|none=>simp[WR,e]|some ob=>
  cases ob with
  |lst xs=>cases q:QC xs with|none=>simp[WR,e,q]|some zs=>by_cases j:JoinOk x zs=Zl<;>simp[WR,e,q,j]
  |_=>simp[WR,e]
theorem Ca:∀zs:Tj,QC (zs.map IV.str)=M zs|[]=>rfl|z::zs=>by rw[eP,QC,Ca zs];rfl
end
section
variable{U:aE}{h:IH}{Q:IV->IH->Prop}{i:Nat}
def xI:WR (cW (.ref i) h) Q=∃xs,h[i]?=M (.lst xs)/\∃ns,JE xs=M ns/\Q (.int ns.sum) h:=by
 unfold cW;cases e:h[i]? with|none=>simp[WR,e]|some ob=>cases ob with|lst xs=>cases q:JE xs<;>simp[WR,e,q]|_=>simp[WR,e]
theorem Qz:∀ns:To,JE (ns.map IV.int)=M ns|[]=>rfl|n::ns=>by rw[eP,JE,Qz ns];rfl
def xJ(aa)(md):WR (Vx aa md U h) Q=WR (aa U h) λxs h1=>WR (md U h1) λd h2=>∃i,xs=[.ref i]/\∃ys,h2[i]?=M (.lst ys)/\∃ns,JE ys=M ns/\Q (maxD ns d) h2:=by
 unfold Vx;rw[J8];congr 1;funext xs h1;rw[J8];congr 1;funext d h2;match xs with
 |[.ref i]=>
  simp;cases e:h2[i]? with|none=>simp[WR]|some ob=>cases ob with|lst ys=>cases q:JE ys<;>simp[WR,q]|_=>simp[WR]
 |[]=>simp[WR]
 |[.aw]=>simp[WR]
 |[.bl _]=>simp[WR]
 |[.int _]=>simp[WR]
 |[.str _]=>simp[WR]
 |[.tup _]=>simp[WR]
 |[.cJ _]=>simp[WR]
 |x::_::_=>cases x<;>simp[WR]
def Juq(aa):WR (Yx aa U h) Q=WR (aa U h) λxs h1=>∃i,xs=[.ref i]/\∃ys,h1[i]?=M (.lst ys)/\∃zs,QC ys=M zs/\zs.length+1<kU/\Q (.int<|hE (QN zs) zs.length) h1:=by
 unfold Yx;rw[J8];congr 1;funext xs h1;match xs with
 |[.ref i]=>
  simp;cases e:h1[i]? with|none=>simp[WR]|some ob=>
   cases ob with
   |lst ys=>cases q:QC ys with|none=>simp[WR,q]|some zs=>by_cases j:zs.length+1<kU<;>simp[WR,q,j]
   |_=>simp[WR]
 |[]=>simp[WR]
 |[.aw]=>simp[WR]
 |[.bl _]=>simp[WR]
 |[.int _]=>simp[WR]
 |[.str _]=>simp[WR]
 |[.tup _]=>simp[WR]
 |[.cJ _]=>simp[WR]
 |x::_::_=>cases x<;>simp[WR]
theorem IM(nd:zs.Nodup):∀i,i<=zs.length->hE (QN zs) i=i
 |0,_=>rfl
 |i+1,D=>by
  have m:=IM nd i<|Zo 06;have hm:jH (QN zs) i (QN zs i)=Zm:=by unfold jH;rw[List.any_eq_false];intro j k;have k:=fO.mp k;simp;intro e;simp![QN,Zh (show j<zs.length by show fV 06 06),Zh<|show i<zs.length by show D]at e;have:=(vJ nd).mp e;show kQ k<|Zg this
  unfold hE;rw[hm,m];rfl
theorem xK(f):∀(n j:Nat),j<n->f j<=JP f n
 |0,_,h=>by show absurd 06<|mT _
 |1,j,h=>by
  obtain rfl:j=0:=by show rG 06
  show ZO _
 |n+2,j,h=>by
  rw[wY f<|by show iI _];by_cases k:j=n+1
  .subst k;split<;>(first|show dR.mp 06|show ZO _|lia)
  .have:=xK f (n+1) j<|by show ZX (Z5 h) k
   split<;>(first|show Z2 (Z1 this 06)|show this|lia)
theorem xM(f)(b):∀(n:Nat),0<n->(∀j,j<n->f j<=b)->JP f n<=b
 |0,h,_=>absurd 06<|jP _
 |1,_,q=>q 0 06
 |n+2,_,q=>by
  rw[wY f<|iI _];have:=xM f b (n+1) (iI _) λj k=>q j<|jO 06
  have:=q (n+1)<|ZY _;split<;>assumption
end
section
variable{h:IH}{Q:IV->IH->Prop}{i:Nat}
def IP(D:h[i]?=M (.lst xs))(k:h[j]?=M (.lst ys))(hl:xs.length+ys.length<=sizeLine):WR (X9 (.ref i) [.ref j] h) Q=Q .aw (h.set i<|.lst<|xs++ys):=by unfold X9;simp![D,k];rw[if_pos hl];rfl
end
def i9(i0:Nat)(h h':IH):Prop:=∀(j:Nat)(ob:IX),j≠i0->h[j]?=M ob->h'[j]?=M ob
def Kp(h h':IH):Prop:=∀(j:Nat)(ob:IX),h[j]?=M ob->h'[j]?=M ob
theorem i9.trans(p:i9 i0 a b)(q:i9 i0 b c):i9 i0 a c:=λj ob n e=>q j ob n<|p j ob n e
theorem Kp.trans(p:Kp a b)(q:Kp b c):Kp a c:=λj ob e=>q j ob<|p j ob e
theorem Kp.but(p:Kp a b):i9 i0 a b:=λj ob _ e=>p j ob e
theorem Ex.kp(x:Ex a b):Kp a b:=λ_ _ e=>x.get e
theorem IQ{bE:IV->IV->IH->Prop}(i0)(mono:∀x y h2 h3,i9 i0 h2 h3->bE x y h2->bE x y h3):∀{xs acc:Tw}{o:Te}{h1:IH},h1[i0]?=M (.lst acc)->(∀h2,i9 i0 h1 h2->bK h2)->acc.length+xs.length<sizeLine ->(∀x∈xs,∀h2:IH,i9 i0 h1 h2->i0<h2.length->WR (e (M x::caps) h2) λv h3=>Ex h2 h3/\bE x v h3) ->WR (JS bK (aF 0) J2 e i0 xs (o::caps) h1) λv h3=>v=.ref i0/\∃ys,h3[i0]?=M (.lst<|acc++ys)/\ys.length=xs.length/\i9 i0 h1 h3/\∀(i:Nat) x y,xs[i]?=M x->ys[i]?=M y->bE x y h3
 |[],acc,o,h1,D,hc,_,_=>by unfold JS;rw[if_pos<|hc h1 λ_ _ _ q=>q];show#[rfl,[],by simpa using D,rfl,λ_ _ _ q=>q,λi x y q=>by simp at q]
 |x::xs,acc,o,h1,D,hc,hl,he=>by
  unfold JS;rw[if_pos<|hc h1 λ_ _ _ q=>q];dsimp only[aF,vH,J2];have B:acc.length+xs.length+1<sizeLine:=by simpa[qa]using hl
  let#[v,h3,U,E,dv]:=(he x ZA h1 (λ_ _ _ q=>q)<|JF D).eq;rw[U];dsimp only;rw[E.get D];dsimp only;rw[if_pos<|ZP (Zd _ _) 06];have m:i9 i0 h3 (h3.set i0<|.lst<|acc++[v]):=λj ob n q=>by rw[iy<|ZV n];show q
  have k:=E.kp.but.trans m;calc WR.mono (IQ i0 mono (by rw[jw<|JF<|E.get D]) (λH q=>hc H<|k.trans q) (by simp;(rw[mQ];show B)) λy S H q=>he y (Zq _ S) H<|k.trans q) ?_;rintro w V ⟨rfl,ys,Q,O,I,P⟩;calc#[rfl,v::ys,by simpa using Q,by simp[O],k.trans I,?_];intro i J R C F;cases i with
  |zero=>simp at C F;subst C;subst F;show mono _ _ _ _ (m.trans I) dv
  |succ i=>show P i J R (by simpa using C)<|by simpa using F
def IS(bE:IV->IV->IH->Prop)(m:WR (it U h0) λbB h1=>bB.xs=xs/\bB.bK=bK/\h1=h)(hl:xs.length<sizeLine) (mono:∀x y h2 h3,i9 h.length h2 h3->bE x y h2->bE x y h3)(H:∀h2:IH,Kp h h2->bK h2) (O:∀x∈xs,∀h2:IH,Kp h h2->h.length<h2.length->WR (e (M x::js.map λj=>(U[j]?).join) h2) λv h3=>Ex h2 h3/\bE x v h3):WR (Jv it 1 js (aF 0) J2 e U h0) λv h3=>v=.ref h.length/\∃ys,h3[h.length]?=M (.lst ys)/\ys.length=xs.length/\Kp h h3/\∀(i:Nat) x y,xs[i]?=M x->ys[i]?=M y->bE x y h3:=by
 let#[bB,h1,I,F,J,rfl]:=m.eq;unfold Jv;rw[I];change WR (JS bB.bK (aF 0) J2 e h1.length bB.xs (Z::js.map λj=>(U[j]?).join)<|h1++[.lst []]) _;rw[F,J];have k:∀{h2:IH},i9 h1.length (h1++[IX.lst []]) h2->Kp h1 h2:=λq j ob r=>q j ob (Zw<|JF r)<|grow r
 calc WR.mono (IQ h1.length mono grown (λh2 q=>H h2<|k q) (by simpa using hl) λx hx h2 q B=>O x hx h2 (k q) B) ?_;rintro v h3 ⟨rfl,ys,E,B,C,D⟩;show#[rfl,ys,by simpa using E,B,k C,D]
section
variable{h:IH}
theorem Cb{st:IV->aE}(i0):∀{xs acc:Tw}{B:aE}{h1:IH},B.length=n->h1[i0]?=M (.lst acc)->(∀h2,(∀j ob,j≠i0->h1[j]?=M ob->h2[j]?=M ob)->bK h2)->acc.length+xs.length<sizeLine ->(∀x∈xs,∀(B:aE)(h2:IH),B.length=n->(st x).length=n/\g x (B++caps) h2=.next (st x++caps) h2) ->(∀x∈xs,∀h2,(∀j ob,j≠i0->h1[j]?=M ob->h2[j]?=M ob)->WR (t (st x++caps) h2) λb h3=>b=p x/\Ex h2 h3) ->(∀x∈xs,p x=Zl->∀h2,(∀j ob,j≠i0->h1[j]?=M ob->h2[j]?=M ob)->WR (e (st x++caps) h2) λv h3=>v=f x/\Ex h2 h3) ->WR (JS bK g t e i0 xs (B++caps) h1) λv h3=>v=.ref i0/\∃g,h3=h1.set i0 (.lst<|acc++(xs.filter p).map f)++g
 |[],acc,B,h1,_,D,hc,_,_,_,_=>by
  unfold JS;rw[if_pos<|hc h1 λ_ _ _ q=>q];calc#[rfl,[],?_];simp;calc(pL λj=>?_);by_cases Q:j=i0
  .subst Q;rw[D,jw<|JF D]
  .rw[iy<|ZV Q]
 |x::xs,acc,B,h1,hls,D,hc,hl,hg,ht,he=>by
  unfold JS;rw[if_pos<|hc h1 λ_ _ _ q=>q];let#[P,J]:=hg x ZA B h1 hls;rw[J];dsimp only;have O:acc.length+xs.length+1<sizeLine:=by simpa[qa]using hl
  let#[b,h2,S,rfl,E]:=(ht x ZA h1 λ_ _ _ q=>q).eq;rw[S];have m:∀j ob,j≠i0->h1[j]?=M ob->h2[j]?=M ob:=λj ob _ q=>E.get q
  cases hp:p x with
  |false=>
   dsimp only;refine WR.mono (Cb i0 P (E.get D) (λh3 q=>hc h3 λj ob n r=>q j ob n<|m j ob n r) (fM 06) (λy k=>hg y<|Zq _ k) (λy k h3 q=>ht y (Zq _ k) h3 λj ob n r=>q j ob n<|m j ob n r) λy k C h3 q=>he y (Zq _ k) C h3 λj ob n r=>q j ob n<|m j ob n r) λv h3 ⟨ev,g,eg⟩=>#[ev,?_]
   let#[g2,rfl]:=E;calc#[g2++g,?_];rw[eg,nQ (h:=JF D)];simp[hp]
  |true=>
   dsimp only;let#[v,h3,U,rfl,I]:=(he x ZA hp h2 m).eq;rw[U];dsimp only;rw[I.get<|E.get D];dsimp only;rw[if_pos<|ZP (Zd _ _) 06];have F:∀j ob,j≠i0->h1[j]?=M ob->(h3.set i0<|.lst<|acc++[f x])[j]?=M ob:=λj ob n q=>by rw[iy<|ZV n];show I.get<|E.get q
   refine WR.mono (Cb i0 (acc:=acc++[f x]) P (by rw[jw<|JF<|I.get<|E.get D]) (λH q=>hc H λj ob n r=>q j ob n<|F j ob n r) (by simp;(rw[mQ];show O)) (λy k=>hg y<|Zq _ k) (λy k H q=>ht y (Zq _ k) H λj ob n r=>q j ob n<|F j ob n r) λy k C H q=>he y (Zq _ k) C H λj ob n r=>q j ob n<|F j ob n r) λv H ⟨ev,g,eg⟩=>#[ev,?_]
   let#[R,V]:=E.trans I;calc#[R++g,?_];rw[eg,V,nQ (h:=JF D),nQ (h:=by rw[qn];show JF D),vO];simp[hp]
def Jxh{st:IV->aE}(m:WR (it U h0) λbB h1=>bB.xs=xs/\bB.bK=bK/\h1=h)(hl:xs.length<sizeLine) (F:∀h2:IH,(∀(j:Nat)(ob:IX),h[j]?=M ob->h2[j]?=M ob)->bK h2) (D:∀x∈xs,∀(B:aE)(h2:IH),B.length=n->(st x).length=n/\g x (B++js.map λj=>(U[j]?).join) h2=.next (st x++js.map λj=>(U[j]?).join) h2) (C:∀x∈xs,∀h2:IH,(∀(j:Nat)(ob:IX),h[j]?=M ob->h2[j]?=M ob)->WR (t (st x++js.map λj=>(U[j]?).join) h2) λb h3=>b=p x/\Ex h2 h3) (J:∀x∈xs,p x=Zl->∀h2:IH,(∀(j:Nat)(ob:IX),h[j]?=M ob->h2[j]?=M ob)->WR (e (st x++js.map λj=>(U[j]?).join) h2) λv h3=>v=f x/\Ex h2 h3):WR (Jv it n js g t e U h0) λv h3=>v=.ref h.length/\∃g,h3=h++.lst ((xs.filter p).map f)::g:=by
 let#[bB,h1,H,E,I,rfl]:=m.eq;unfold Jv;rw[H];change WR (JS bB.bK g t e h1.length bB.xs (fX n Z++js.map λj=>(U[j]?).join)<|h1++[.lst []]) _;rw[E,I];have k:∀{h2:IH},(∀j ob,j≠h1.length->(h1++[IX.lst []])[j]?=M ob->h2[j]?=M ob)->∀j ob,h1[j]?=M ob->h2[j]?=M ob:=λq j ob r=>q j ob (Zw<|JF r)<|grow r
 refine WR.mono (Cb h1.length (tH ..) grown (λh2 q=>F h2<|k q) (by simpa using hl) D (λx hx h2 q=>C x hx h2<|k q) λx hx hp h2 q=>J x hx hp h2<|k q) λv h3 ⟨ev,g,eg⟩=>#[ev,g,?_]
 rw[eg];simp
end
def Cd(ts:Tv)(H:Hp):Prop:=∀b,H b=Z\/(∃o xs,H b=M (.cI o<|.lst xs))\/(b∈ts/\H b=M (.iP #[]))
def Js4{K:W.Frag}
  (KX:K.In s₁.heap)(V:s₁.heap.Ns ZJ mg)(j:s₁.heap.Ns pz mb)(hbb:∀x:Str,x≠"__name__"->mb x=kT x)(X:s₁.heap.NoLimit)(hg:s₁.gens=#[])
  (ha:s₁.heap.get? a=M {cls:=.type "list",data:=.seq O.toArray})(D:d8 O ns)(hl:ns.length<=sizeLine)(hr:aY k qj)
  (U:∀p∈ts,s₁.heap.get? p=M (W.tabObj #[])/\isCodeTable s₁.heap p/\K.lookup p=Z)
  (hbm:∃bm ob,mg "__builtins__"=M (.ref bm)/\bm≠pz/\s₁.heap.get? bm=M ob/\ob.cls=.type "module"/\ob.dict=M pz/\ob.data=.plain)
  (F:∀base:bp,K.In base->base.Ns ZJ mg->QE mg base->cq P w K mg base (fR P w) k fa fd [x] sp)(hbind:∀(s:Zy)(u:Zu),r8 s fd #[[u],[]] [(x,u)])
  (hsp:∀H:Hp,Cd ts H->b8 K H a (ns.map bC.int)->(∀p∈ts,H p=M (.iP #[]))->sp [.ref a] H (λv _=>v=.bl Zl) λ_ _ _=>False):
  j6 (Z4 P w) qj (.call (.ref fa) #[[.ref a],[]]) (λr s'=>r=.ok (.ret<|.bool Zl)/\OldK s₁.heap s'.heap/\s'.os=s₁.os/\ng s'.gens) s₁:=by
 have rv:=L2.Xu D;have lenV:=D.length;have nta:a∉ts:=λz=>by
  have e:=(U a z).1;rw[ha]at e;have I:=gJ e;injection I with h1
  cases h1
 have S:∀H:Hp,Cd ts H->b8 K H a (ns.map bC.int)->dk P w H s₁.heap->(∀b,H b≠Z->b=a\/b∈ts)->(H a≠Z->K.lookup a=Z)->(∀p∈ts,H p=M (.iP #[])) ->
   j6 (Z4 P w) qj (.call (.ref fa) #[[.ref a],[]]) (λr s'=>r=.ok (.ret<|.bool Zl)/\OldK s₁.heap s'.heap/\s'.os=s₁.os/\ng s'.gens) s₁:=by
  intro H hO hS aA hA hK hTt;have B:∀{b:ZD}{o:Obj},s₁.heap.get? b=M o->H b=Z->(gM s₁.heap H).get? b=M o:=λe n=>Oc e n
  have iS:∀{b:ZD}{o:Obj},s₁.heap.get? b=M o->(∀O n,o.data≠.seq O n)->(∀O,o.data≠.fields O)->H b=Z:=λ{b o} e d1 d2=>by
   cases q:H b with|none=>rfl|some u=>
    rcases hA b (by rw[q];simp)with I|I
    .subst I;rw[ha]at e;cases e;show absurd rfl (d1 _ _)
    .rw[(U b I).1]at e;cases e;show absurd rfl (d2 _)
  have J:∀{b:ZD}{m:Str->Ta},s₁.heap.Ns b m->(gM s₁.heap H).Ns b m:=λ{b m} ⟨o,es,ep,e,d,r⟩=>#[o,es,ep,B e (iS e (λ_ _ z=>by rw[d]at z;cases z) λ_ z=>by rw[d]at z;cases z),d,r];have Y:=λb o e=>B (KX b o e) (by
   cases q:H b with|none=>rfl|some u=>
    rcases hA b (by rw[q];simp)with I|I
    .subst I;rw[hK<|by rw[q];simp]at e;cases e
    .rw[(U b I).2.2]at e;cases e)
  have hM:Mod K mg (gM s₁.heap H):=#[Y,J V,#[mb,J j,hbb],let ⟨mc,h1,h2⟩:=X;#[mc,J h1,h2]];have hB:QE mg (gM s₁.heap H):=by let#[bm,ob,b1,b2,b3,b4,b5,b6]:=hbm;calc#[bm,ob,b1,b2,λz=>?_,B b3 (iS b3 (λ_ _ z=>by rw[b6]at z;cases z) λ_ z=>by rw[b6]at z;cases z),b4,b5,b6];let#[o,es,ep,e,d,_]:=V;rw[<-z,b3]at e;cases e;rw[b6]at d;cases d
  have e0:jC P w K mg (gM s₁.heap H) qj [] s₁ H:=#[rfl,hM,λb o e=>Od e,Zg<|Oa _ _,trivial,λb j=>absurd (show b∈([]:Tv)from j) 03,aA,.of_eq hg];refine rV ((F _ Y (J V) hB).run qj [] s₁ H #[[.ref a],[]] [.ref a] [.ref a] _ _ hr e0 (hbind s₁<|.ref a) (.cons rfl .nil)<|hsp H hO hS hTt) λr s' h=>?_
  cases r with|error e=>show h.elim λ_ z=>z.2.2.2.2.elim|ok fl=>
   cases fl with|next=>show kc h|brk=>show kc h|cont=>show kc h|ret u=>
    let#[v,H',os,bare,un,Q,r',q]:=h;have q':v=.bl Zl:=q;subst q';obtain rfl:u=sH Zl:=r';have R:∀b o,s₁.heap.get? b=M o->asItWas s₁.heap s'.heap b o/\∃o',s'.heap.get? b=M o':=λb o e=>by
     rcases hO b with z|⟨ob,xs,z⟩|⟨j,z⟩
     .have:=un.keep b o e z (by intro z;show absurd (show b∈([]:Tv)from z) 03) 03;show#[.inl this,_,this]
     .have z2:=un.cb b ob _ z;let#[e1,_]:=aA b _ z;let#[e2,_]:=Q b _ z2;rw[e]at e1;cases e1;show#[.inl e2,_,e2]
     .let#[more,z2]:=un.d9 b _ z;have e2:=Q b _ z2;have e1:=(U b j).1;rw[e]at e1;cases e1;show#[.inr<|.inl #[(U b j).2.1,rfl,#[],more,rfl,e2],_,e2]
    show#[rfl,#[λb o e=>(R b o e).1,λb o e=>(R b o e).2],os,bare]
 cases hk:K.lookup a with
 |some o=>
  have e:=KX a o hk;rw[ha]at e;cases e;refine S (λb=>if b∈ts then M (.iP #[])else Z) (λb=>?_) (.inr #[_,O.toArray,_,hk,rfl,rfl,rfl,by rw[fN,lenV];show hl,by simpa using rv]) (λb u z=>?_) (λb z=>?_) (λz=>absurd (if_neg nta) z) λp hp=>if_pos hp
  .by_cases j:b∈ts
   .show .inr<|.inr #[j,if_pos j]
   .show .inl<|if_neg j
  .by_cases j:b∈ts
   .have E:=(if_pos j).symm.trans z;cases E;show(U b j).1
   .have E:=(if_neg j).symm.trans z;cases E
  .by_cases j:b∈ts
   .show .inr j
   .show absurd (if_neg j) z
 |none=>
  refine S (λb=>if b=a then M (.cI {cls:=.type "list",data:=.seq O.toArray} (.lst<|ns.map bC.int))else if b∈ts then M (.iP #[])else Z) (λb=>?_) (.inl<|.inr #[{cls:=.type "list",data:=.seq O.toArray},if_pos rfl]) (λb u z=>?_) (λb z=>?_) (λ_=>hk) λp hp=>?_
  .by_cases j:b=a
   .show .inr<|.inl #[_,_,if_pos j]
   .by_cases C:b∈ts
    .show .inr<|.inr #[C,(if_neg j).trans<|if_pos C]
    .show .inl<|(if_neg j).trans<|if_neg C
  .by_cases j:b=a
   .have E:=(if_pos j).symm.trans z;cases E;subst j;show#[ha,by rw[Zn];show hl,O,_,rv,ha]
   .by_cases C:b∈ts
    .have E:=((if_neg j).trans<|if_pos C).symm.trans z;cases E;show(U b C).1
    .have E:=((if_neg j).trans<|if_neg C).symm.trans z;cases E
  .by_cases j:b=a
   .show .inl j
   .by_cases C:b∈ts
    .show .inr C
    .show absurd ((if_neg j).trans<|if_neg C) z
  .have j:p≠a:=λz=>nta<|z▸hp
   show(if_neg j).trans<|if_pos hp
noncomputable def Ce (o:Obj)(q:Str):Bool:=match o with|⟨_,_,.fields O,_⟩=>(match O.toList with|_::.str n _::_=>n==q|_=>Zm)|_=>Zm
def QW(K:W.Frag)(q:Str)(p:ZD):Bool:=(K.lookup p).isNone&&K.all (λe=>!(Ce e.2 q)||W.codeHdIn K e.1 p)&&K.any (λe=>Ce e.2 q&&W.codeHdIn K e.1 p)
def Va(K:W.Frag):Tj->Tv->Bool|[],[]=>Zl|q::qs,p::ps=>QW K q p&&!ps.contains p&&Va K qs ps|_,_=>Zm
def Jp8{K:W.Frag}(h:K.lookup c=M o):(c,o)∈K:=by
 induction K with|nil=>cases h|cons p K j=>
  let#[b,k]:=p;rw[jx]at h;split at h
  .simp_all
  .simp_all
def QW.code{K:W.Frag}(h:QW K q p=Zl):∀j,W.codeIn K j q=Zl->∃c,j=.ref c/\W.codeHdIn K c p=Zl:=by
 simp![QW,Zv,pN,m3]at h;intro j e;unfold W.codeIn at e;split at e
 .rename_i c;calc#[c,rfl,?_];cases k:K.lookup c with|none=>rw[k]at e;cases e|some o=>
   rw[k]at e;rcases h.1.2 _ (Jp8 k)with z|z
   .exfalso;have C:Ce o q=Zl:=by let#[D,F,B,E]:=o;cases B<;>first|show e|cases e
    have m:=z;rw[C]at m;cases m
   .show z
 .cases e
def QW.some{K:W.Frag}(h:QW K q p=Zl):K.lookup p=Z/\∃c,W.codeHdIn K c p=Zl:=by simp![QW,Zv,zc,Option.isNone_iff_eq_none]at h;let#[#[j,_],e,_,k]:=h;show#[j,e.1,k.2]
theorem Va.mem{K:W.Frag}:∀{qs:Tj}{ts:Tv},Va K qs ts=Zl->ts.Nodup/\qs.length=ts.length/\(∀(i:Nat)(q:Str),qs[i]?=M q->∃p,ts[i]?=M p/\QW K q p=Zl)/\∀p∈ts,∃q,QW K q p=Zl
 |[],[],_=>#[.nil,rfl,λi q e=>by simp at e,λp hp=>by cases hp]
 |q::qs,p::ps,h=>by
  simp![Va,Zv,sA,List.contains_eq_mem,decide_eq_false_iff_not]at h;let#[#[k,C],B]:=h;let#[a,b,c,d]:=Va.mem B;refine#[sj.mpr #[C,a],by simp[b],λi r e=>?_,λr j=>?_]
  .cases i with|zero=>have m:=e;cases m;show#[p,rfl,k]|succ i=>show c i r e
  .rcases ZC.mp j with rfl|j
   .show#[q,k]
   .show d r j
 |[],_::_,h=>by cases h
 |_::_,[],h=>by cases h
def Jp7{K:W.Frag}{ns:To}(m:Cd ts H)(B:b8 K H a<|ns.map bC.int)(C:∀p∈ts,H p=M (.iP #[]))(D:Va K qs ts=Zl) (j:∃h',f [.cJ<|ns.map IV.int] (qs.map IX.tab)=.ok (.bl Zl) h'):XW K x f [.ref a] H (λv _=>v=.bl Zl) λ_ _ _=>False:=by
 intro J;let#[h',j]:=j;have sr:qL K H a (ns.map bC.int):=by
  rcases B with(h|⟨o,h⟩)|h
  .rcases m a with z|⟨ob,xs,z⟩|⟨_,z⟩
   .rw[z]at h;cases h
   .rw[z]at h;cases h
   .rw[z]at h;cases h
  .show .inl #[o,h]
  .show .inr h
 let#[nd,le,at_,_]:=Va.mem D;refine#[rfl,ts,qs.map IX.tab,[.cJ<|ns.map IV.int],#[by simp[le],nd,λi o e=>?_],#[.ref a,[],rfl,#[a,_,rfl,sr,aC.ints ns],rfl],?_]
 .rw[ZI]at e;cases eq:qs[i]? with|none=>rw[eq]at e;cases e|some q=>rw[eq]at e;cases e;let#[p,k,hp]:=at_ i q eq;show#[p,k,QW.code hp,#[],C p<|tK k,trivial,λE F z=>by cases z]
 .rw[j];intro v I O _ _ q;show q
def Jxd{l:W.OpenLaw}{K:Params->W.Frag} (hn:l.most=M n)(D:n<=sizeLine)(C:d.params.defaults=[])(hr:aY k qj) (S:∀(w:bo)(h:bp),YP w h->(K w.params).In h/\∀p∈ts,h.get? p=M (W.tabObj #[]))(Q:∀w:bo,Va (K w.params) qs ts=Zl) (F:∀(w:bo)(mg:Str->Ta)(fa:ZD)(h:bp),(K w.params).In h->h.Ns ZJ mg->mg d.name=M (.ref fa) ->∃fd:j5,(∀(s:Zy)(u:Zu),r8 s fd #[[u],[]] [(x,u)]) /\ ∀base:bp,(K w.params).In base->base.Ns ZJ mg->QE mg base->cq l.prog w (K w.params) mg base (fR l.prog w) k fa fd [x] (XW (K w.params) x f)) (U:∀ns:To,ns.length<=n->∃h',f [.cJ<|ns.map IV.int] (qs.map IX.tab)=.ok (.bl Zl) h'):W.WalkO q loose XP YP l.row.toRowW d [] (λf O=>PySem.call f O):=by
 refine Att.iT hn C λw s₀ s₁ mg mb fa o pm cd doc a O ns G YY ho hd hcd I B m j hg=>?_
 let#[J,P]:=S w _ YY;let#[fd,R,hF]:=F w mg fa _ J G.T.g I;refine Js4 J G.T.g G.T.b G.T.builtins G.T.nolimit hg B m (Zb j D) hr (λp hp=>?_) G.T.bmain hF R λH Y hS E=>Jp7 Y hS E (Q w)<|U ns j
 let#[q,hq]:=(Va.mem<|Q w).2.2.2 p hp;let#[V,c,X]:=QW.some hq;show#[P p hp,((W.codeHd_of_K J X).tab<|P p hp).isCodeTable,V]
section
variable{α β:Type}{U:aE}{h:IH}
def WE(r:Res α)(Q:α->IH->Prop)(Z_:Nat->IH->Prop):Prop:=match r with|.ok a h=>Q a h|.exc n h=>Z_ n h|.stuck=>False
def gF(r:cf)(N:aE->IH->Prop)(R:IV->IH->Prop)(Z_:Nat->aE->IH->Prop):Prop:=match r with|.next U h=>N U h|.ret v h=>R v h|.exc n U h=>Z_ n U h|_=>False
variable{Q:α->IH->Prop}{Z_:Nat->IH->Prop}{N:aE->IH->Prop}{R:IV->IH->Prop}{YY:Nat->aE->IH->Prop}
def J11{Q:β->IH->Prop}(r:Res α)(f):WE (r.bind f) Q Z_=WE r (λa h=>WE (f a h) Q Z_) Z_:=by cases r<;>rfl
def WE.of(w:WR r Q):WE r Q Z_:=by cases r with|ok a h=>show w|exc n h=>show(w).elim|stuck=>show(w).elim
def WE.mono(w:WE r Q Z_)(k:∀a h,Q a h->Q' a h)(j:∀n h,Z_ n h->Z' n h):WE r Q' Z':=by cases r with|ok a h=>show k _ _ w|exc n h=>show j _ _ w|stuck=>show w
def WE.wr(w:WE r Q λ_ _=>False):WR r Q:=by cases r with|ok a h=>show w|exc n h=>show w|stuck=>show w
def gF.of(w:WS r N R):gF r N R YY:=by cases r with|next U h=>show w|ret v h=>show w|_=>show Zf w
def xN(r:Res α)(k):gF (rS U r k) N R YY=WE r (λa h=>gF (k a h) N R YY) λn h=>YY n U h:=by cases r<;>rfl
def YT(a b):gF (Jg a b U h) N R YY=gF (a U h) (λj h1=>gF (b j h1) N R YY) R YY:=by unfold Jg;cases a U h<;>rfl
theorem Cf:gF (Jp U h) N R YY=N U h:=rfl
def Cg(i)(e):gF (Jl i e U h) N R YY=WE (e U h) (λv h1=>N (U.set i<|M v) h1) λn h=>YY n U h:=by unfold Jl;rw[xN];rfl
def Jxn(e):gF (JH e U h) N R YY=WE (e U h) (λ_ h1=>N U h1) λn h=>YY n U h:=by unfold JH;rw[xN];rfl
def Ci(t)(a b):gF (aU t a b U h) N R YY=WE (t U h) (λc h1=>(c=Zl->gF (a U h1) N R YY)/\(c=Zm->gF (b U h1) N R YY)) λn h=>YY n U h:=by unfold aU;rw[xN];congr 1;funext c h1;cases c<;>simp
def IT(c)(a):gF (Vp c a U h) N R YY=WE (a U h) (λO h1=>O.length<=sizeLine/\YY h1.length U (h1++[.exc c []])) λn h=>YY n U h:=by
 unfold Vp;rw[xN];congr 1;funext O h1;by_cases z:O.length<=sizeLine
 .simp[z,gF]
 .simp[z,gF]
def IU{Q:IV->IH->Prop}(f)(d)(a):WE (Jk f d a U h) Q Z_=WE (a U h) (λO h1=>WE (f (O++d) h1) Q Z_) Z_:=by unfold Jk;rw[J11]
def IW{Q:IV->IH->Prop}(w:gF r (λ_ h=>Q .aw h) Q λn _ h=>(∃c fs,h[n]?=M (.exc c fs))/\Z_ n h):WE r.fin Q Z_:=by cases r with|next U h=>show w|ret v h=>show w|exc n U h=>let#[#[c,fs,e],z]:=w;rw[SV e];show z|_=>show(w).elim
def J59(b)(hs)(w:gF (b U h) N R λn j h1=>∃c fs,h1[n]?=M (.exc c fs)/\WS (Vg hs c n j h1) N R):WS (kE b hs U h) N R:=by unfold kE;cases e:b U h with|next j h1=>rw[e]at w;show w|ret v h1=>rw[e]at w;show w|exc n j h1=>rw[e]at w;let#[c,fs,k,w]:=w;dsimp only;rw[k];show w|_=>rw[e]at w;show(w).elim
def J2g(sl)(r):WS (r.drop sl) N R=WS r (λU h=>N (Xt sl Z U) h) R:=by unfold cf.drop;cases r<;>rfl
def IY(e:g c=M Zl):WS (Vg ((g,sl,m)::r) c n U h) N R=WS (m (Xt sl (M<|.ref n) U) h) (λU h=>N (Xt sl Z U) h) R:=by unfold Vg;dsimp only;rw[e];dsimp only;rw[J2g]
def J56(e:g c=M Zm):WS (Vg ((g,sl,m)::r) c n U h) N R=WS (Vg r c n U h) N R:=by rw[Vg];dsimp only;rw[e]
def J2d{Q:IV->IH->Prop}(x)(lo D):WR (pX (.str x) lo D h) Q=(x.length<=sizeLine/\Q (.str<|t9 x lo D) h):=by unfold pX;by_cases z:x.length<=sizeLine<;>simp[WR,z]
end
theorem Cj:∀{a b c:To},da a b=Zl->da b c=Zl->da a c=Zl
 |a::as,b::bs,c::cs,h1,h2=>by
  unfold da at h1 h2 ⊢;by_cases j:a=b
  .rw[if_pos j]at h1;subst j;by_cases k:a=c
   .rw[if_pos k]at h2 ⊢;show Cj h1 h2
   .lia
  .lia
 |[],_,_,h,_=>by simp[da]at h
 |_::_,[],_,h,_=>by simp[da]at h
 |_::_,_::_,[],_,h=>by simp[da]at h
theorem Y6:∀a:To,da a a=Zm|[]=>rfl|a::as=>by unfold da;rw[if_pos rfl];show Y6 as
def Jwa(h:as.length=bs.length):j0 (.tup<|as.map .int) (.tup<|bs.map .int)=M (da as bs):=by unfold j0;dsimp only;rw[Qz,Qz];dsimp only;rw[if_pos h]
section
variable{mk:IV->IH->Res IV}{kf:IV->To}{i n:Nat}{ys:Tw}
theorem Ck(D:h0[i]?=M (.lst ys))(hm:∀y∈ys,∀h,Ex h0 h->WR (mk y h) λv h'=>v=.tup ((kf y).map .int)/\Ex h h')(hl:∀y∈ys,(kf y).length=n):∀(r:Nat)(b:IV)(h:IH),Ex h0 h->r<ys.length->b∈ys->(∀y∈ys.take (ys.length-r),da (kf y) (kf b)=Zm)->WR (Vj j0 mk i ys.length r b (.tup<|(kf b).map .int) h) λv h'=>v∈ys/\(∀y∈ys,da (kf y) (kf v)=Zm)/\Ex h h'
 |0,b,h,x,_,hb,q=>by unfold Vj;rw[x.get D];dsimp only;rw[if_pos rfl];rw[Nat.sub_zero,vL]at q;show#[hb,q,.refl _]
 |r+1,b,h,x,hr,hb,q=>by
  unfold Vj;rw[x.get D];dsimp only;rw[if_pos rfl];have k:ys.length-(r+1)<ys.length:=00;rw[Zh k];dsimp only;have B:=Z6 k;have C:ys.take (ys.length-r)=ys.take (ys.length-(r+1))++[ys[ys.length-(r+1)]]:=by rw[<-pG k,show ys.length-(r+1)+1=ys.length-r by show j2<|o9<|fM 06]
  generalize ys[ys.length-(r+1)]=y at B C;let#[v,E,e,rfl,m]:=(hm y B h x).eq;rw[e];change WR (match j0 (.tup<|(kf y).map .int) (.tup<|(kf b).map .int)with|some Zl=>_|some Zm=>_|none=>_) _;rw[Jwa<|by rw[hl y B,hl b hb]];cases c:da (kf y) (kf b)with
  |true=>
   refine WR.mono (Ck D hm hl r y E (x.trans m) (fM 06) B λz j=>?_) λv h' ⟨a,d,g⟩=>#[a,d,m.trans g]
   rw[C]at j;rcases ZQ.mp j with j|j
   .cases F:da (kf z) (kf y)with
    |false=>rfl
    |true=>show absurd (Cj F c)<|by simp_all
   .rw[ZE.mp j];show Y6 _
  |false=>
   refine WR.mono (Ck D hm hl r b E (x.trans m) (fM 06) hb λz j=>?_) λv h' ⟨a,d,g⟩=>#[a,d,m.trans g]
   rw[C]at j;rcases ZQ.mp j with j|j
   .show q z j
   .rw[ZE.mp j];show c
def Juo(D:h[i]?=M (.lst ys))(ne:ys≠[])(hm:∀y∈ys,∀h',Ex h h'->WR (mk y h') λv h2=>v=.tup ((kf y).map .int)/\Ex h' h2)(hl:∀y∈ys,(kf y).length=n):WR (Xo j0 mk i Z h) λv h'=>v∈ys/\(∀y∈ys,da (kf y) (kf v)=Zm)/\Ex h h':=by
 unfold Xo;rw[D];cases ys with
 |nil=>show absurd rfl ne
 |cons y r=>
  let#[v,h2,e,rfl,m]:=(hm y ZA h<|.refl _).eq;change WR ((mk y h).nx.bind λk h'=>Vj j0 mk i (y::r).length ((y::r).length-1) y k h') _;rw[e];refine WR.mono (Ck (m.get D) (λz j h' x=>hm z j h'<|m.trans x) hl ((y::r).length-1) y h2 (.refl _) 03 ZA λz j=>?_) λv h' ⟨a,d,g⟩=>#[a,d,m.trans g]
  rw[show(y::r).length-((y::r).length-1)=1 by simp,List.take_succ_cons,List.take_zero,ZE]at j;rw[j];show Y6 _
def J2b(k:h[j]?=M (.tab q))(D:U[i]?=M (M<|.ref a)):WR (X7 j0 q j js (Jb (Ja i) Je) m U h) Q=WR (Xo j0 (λv h'=>m (M v::js.map λj=>(U[j]?).join) h') a Z h) Q:=by
 have e:Jb (Ja i) Je U h=.ok [.ref a] h:=by unfold Jb Ja Je;rw[D];rfl
 unfold X7;rw[e];change WR (match h[j]? with|some (.tab q')=>_|_=>_) Q=_;rw[k];dsimp only;rw[if_pos rfl]
end
section
variable{K:W.Frag}{h:bp}{mg:Str->Ta}{T:Tab}{x q:Str}{d:D4}{a C:ZD}{ces:Wp}{oc kV dc pm cd ct:Zu}{od an:Tc}{sl:Wc}
def IZ(hs:jI d.N d.ps (Qm d.st)=Zl)(hd:d.bI=[])(B:d.qual=q)(hl:K.lookup a=M #[oc,od,.func<|W.fnOf x q (VF d.st) (Vd d.st) (Qm d.st) dV kV dc pm an cd ct,sl])(m:W.codeIn K cd q=Zl)(hk:W.keepIn K (.ref a)=Zl)(k:Qj K (W.fnOf x q (VF d.st) (Vd d.st) (Qm d.st) dV kV dc pm an cd ct) d.ps []):bx K x d a (W.fnOf x q (VF d.st) (Vd d.st) (Qm d.st) dV kV dc pm an cd ct):=by subst B;show#[#[dV,#[oc,od,kV,dc,pm,an,cd,ct,sl,rfl,hl,m],hk],jI.of hs,λj C=>#[[],k,by rw[hd];simp,[],.nil,by rw[hd];intro _ _;cases j<;>show rfl]]
def Dk(K:W.Frag)(x _q:Str)(d:D4)(a:ZD):Prop:=∃fd,bx K x d a fd
theorem Dk.mk'{j:Zu}(hs:jI d.N d.ps (Qm d.st)=Zl)(hd:d.bI=[])(hl:K.lookup a=M #[oc,od,.func<|W.fnOf x q (VF d.st) (Vd d.st) (Qm d.st) j kV dc pm an cd ct,sl])(B:d.qual=q)(m:W.codeIn K cd q=Zl)(hk:W.keepIn K (.ref a)=Zl)(k:Qj K (W.fnOf x q (VF d.st) (Vd d.st) (Qm d.st) j kV dc pm an cd ct) d.ps []):Dk K x q d a:=#[_,IZ hs hd B hl m hk k]
theorem fnC(X:K.In h)(G:h.Ns ZJ mg)(ha:W.nsIn K ZJ x=M (M<|.ref a))(bE:Dk K x x d a)(r:All (λp:Str×D4=>∃fa fd,mg p.1=M (.ref fa)/\bx K p.1 p.2 fa fd) l):All (λp:Str×D4=>∃fa fd,mg p.1=M (.ref fa)/\bx K p.1 p.2 fa fd) ((x,d)::l):=.cons (let ⟨fd,o⟩:=bE;#[a,fd,W.mg_of X G ha,o]) r
theorem meC(ha:W.findIn K (.ref C) x=M (M<|.ref a))(D:W.isFn K (.ref a)=Zl)(hk:W.keepIn K (.ref a)=Zl)(bE:Dk K x q d a) (r:All (λp:Str×D4=>∃fa fd,Meth K C p.1 fa/\bx K p.1 p.2 fa fd) l):All (λp:Str×D4=>∃fa fd,Meth K C p.1 fa/\bx K p.1 p.2 fa fd) ((x,d)::l):=.cons (let ⟨fd,o⟩:=bE;#[a,fd,#[ha,D,hk],o]) r
theorem mtC(_:W.nsIn K ZJ x=M (M<|.ref C))(j:fE ces x=M C)(u:All (λp:Str×D4=>∃fa fd,Meth K C p.1 fa/\bx K p.1 p.2 fa fd) m) (r:All (λq:Str×Wq=>∃C,fE ces q.1=M C/\All (λp:Str×D4=>∃fa fd,Meth K C p.1 fa/\bx K p.1 p.2 fa fd) q.2) l):All (λq:Str×Wq=>∃C,fE ces q.1=M C/\All (λp:Str×D4=>∃fa fd,Meth K C p.1 fa/\bx K p.1 p.2 fa fd) q.2) ((x,m)::l):=.cons #[C,j,u] r
theorem inC(X:K.In h)(G:h.Ns ZJ mg)(hx:W.nsIn K ZJ x=M (M<|.ref C))(ha:W.findIn K (.ref C) "__init__"=M (M<|.ref a))(D:W.isFn K (.ref a)=Zl)(hm:W.makesIn K C=Zl)(k:W.keepIn K (.ref C)=Zl) (j:fE ces x=M C)(bE:Dk K "__init__" q d a)(r:All (λp:Str×D4=>∃C fa fd,mg p.1=M (.ref C)/\fE ces p.1=M C/\Mk K C fa/\bx K "__init__" p.2 fa fd) l):All (λp:Str×D4=>∃C fa fd,mg p.1=M (.ref C)/\fE ces p.1=M C/\Mk K C fa/\bx K "__init__" p.2 fa fd) ((x,d)::l):=.cons (let ⟨fd,o⟩:=bE;#[C,a,fd,W.mg_of X G hx,j,#[hm,ha,D,k],o]) r
theorem coC(X:K.In h)(G:h.Ns ZJ mg)(ha:W.nsIn K ZJ x=M (M<|.int i t))(r:All (λp:Str×IV=>∃u y,mg p.1=M u/\RelV y u/\∀Y H,RV K Y H p.2 y) l):All (λp:Str×IV=>∃u y,mg p.1=M u/\RelV y u/\∀Y H,RV K Y H p.2 y) ((x,.int i)::l):=.cons #[_,.int i,W.mg_of X G ha,#[t,rfl],λ_ _=>rfl] r
def iS(K:W.Frag)(C:ZD)(F:Tj):Bool:=F.all λf=>match W.findIn K (.ref C) f with|some Z=>Zl|_=>Zm
theorem iS.all:∀{F:Tj},iS K C F=Zl->All (λf=>QZ K C f) F
 |[],_=>.nil
 |f::F,e=>by
  simp![iS,fY,Zv]at e;calc .cons ?_<|iS.all e.2;have:=e.1;split at this
  .assumption
  .cases this
inductive CN(K:W.Frag)(F:Tj):Tj->Wp->Prop
 |nil:CN K F [] []
 |cons {x:Str}{C:ZD}{xs:Tj}{l:Wp}(hx:W.nsIn K ZJ x=M (M (.ref C))) (c:iZ K C/\All (λf=>QZ K C f) F) (r:CN K F xs l):CN K F (x::xs) ((x,C)::l)
theorem CN.all:∀{xs:Tj}{l:Wp},CN K F xs l->All (λp:Str×ZD=>iZ K p.2/\All (λf=>QZ K p.2 f) F) l|_,_,.nil=>.nil|_,_,.cons _ c r=>.cons c r.all
theorem cC(hx:W.nsIn K ZJ x=M (M<|.ref C))(pg:W.plainGet K C Str.empty=Zl)(hd:W.hasDictIn K C=Zl)(po:W.plainOver K C=Zl)(sa:W.findIn K (.ref C) "__setattr__"=M (M<|.builtin "object.__setattr__"))(h1:W.findIn K (.ref C) "__class__"=M (M<|.builtin "object.__class__"))(h2:W.specialIn K (.builtin "object.__class__") "__get__"=M (M<|.builtin "getset_descriptor.__get__"))(h3:W.takesIn K (.builtin "object.__class__")=M Zl)(k:W.mroIn K C (.type "object")=M Zl) (j:iS K C F=Zl)(r:CN K F xs l):CN K F (x::xs) ((x,C)::l):=.cons hx #[#[#[pg,hd,po,sa],h1,h2,h3,k],iS.all j] r
def I0(K:W.Frag)(bE:ZD)(l:Tj)(ces:Wp):Bool:=(["NoneType","bool","int","str","list","tuple","dict"].all λt=>W.kitOne K (.type t) (.ref bE)==M Zm)&&ces.all λp=>W.kitOne K (.ref p.2) (.ref bE)==M (dC p.1 l)
theorem I7{f:α->Bool}{P:α->Prop}(w:∀a,f a=Zl->P a):∀{l:List α},l.all f=Zl->All P l|[],_=>.nil|a::l,e=>by simp![fY,Zv]at e;show .cons (w a e.1)<|I7 w e.2
def isC(X:K.In h)(G:h.Ns ZJ mg)(hx:W.nsIn K ZJ x=M (M<|.ref C))(j:I0 K C m ces=Zl)(r:All (λq:Str×Tj=>∃bE,mg q.1=M (.ref bE)/\W.kitOne K (.type "NoneType") (.ref bE)=M Zm/\W.kitOne K (.type "bool") (.ref bE)=M Zm/\W.kitOne K (.type "int") (.ref bE)=M Zm/\W.kitOne K (.type "str") (.ref bE)=M Zm /\ W.kitOne K (.type "list") (.ref bE)=M Zm/\W.kitOne K (.type "tuple") (.ref bE)=M Zm/\W.kitOne K (.type "dict") (.ref bE)=M Zm/\All (λp:Str×ZD=>W.kitOne K (.ref p.2) (.ref bE)=M (dC p.1 q.2)) ces) l):All (λq:Str×Tj=>∃bE,mg q.1=M (.ref bE)/\W.kitOne K (.type "NoneType") (.ref bE)=M Zm/\W.kitOne K (.type "bool") (.ref bE)=M Zm/\W.kitOne K (.type "int") (.ref bE)=M Zm/\W.kitOne K (.type "str") (.ref bE)=M Zm /\ W.kitOne K (.type "list") (.ref bE)=M Zm/\W.kitOne K (.type "tuple") (.ref bE)=M Zm/\W.kitOne K (.type "dict") (.ref bE)=M Zm/\All (λp:Str×ZD=>W.kitOne K (.ref p.2) (.ref bE)=M (dC p.1 q.2)) ces) ((x,m)::l):=by simp![I0,fY,List.all_nil,Bool.and_true,Zv,beq_iff_eq]at j;let#[#[k,H,D,I,F,B,J],E]:=j;show .cons #[C,W.mg_of X G hx,k,H,D,I,F,B,J,I7 (λa e=>beq_iff_eq.mp e) E] r
theorem frC(X:K.In h)(G:h.Ns ZJ mg)(hx:W.nsIn K ZJ x=M Z)(r:All (λx=>mg x=Z) l):All (λx=>mg x=Z) (x::l):=.cons (W.mg_none_of X G hx) r
theorem rzC(X:K.In h)(G:h.Ns ZJ mg)(hx:W.nsIn K ZJ x=M (M<|.ref C))(j:W.excIn K C [.type "ValueError",.type "Exception",.type "BaseException",.type "object"] "ValueError.__new__"=Zl)(r:All (λx=>∃C,mg x=M (.ref C)/\W.nsIn K ZJ x=M (M<|.ref C)/\hX K C) l):All (λx=>∃C,mg x=M (.ref C)/\W.nsIn K ZJ x=M (M<|.ref C)/\hX K C) (x::l):=.cons #[C,W.mg_of X G hx,hx,j] r
abbrev XP(K:W.Frag)(v:Zu):Str×Bool->Prop:=λp=>∃C,W.nsIn K ZJ p.1=M (M<|.ref C)/\nu K C/\W.kitOne K (.ref C) v=M p.2/\W.exmOne K (.ref C) v=M p.2
theorem xpC(hx:W.nsIn K ZJ x=M (M<|.ref C))(ga:W.findIn K (.ref C) "__getattribute__"=M (M<|.builtin "BaseException.__getattribute__"))(mb:W.mroIn K C (.type "BaseException")=M Zl)(gn:W.findIn K (.ref C) "__getattr__"=M Z)(ca:W.findIn K (.ref C) "__class__"=M (M<|.builtin "object.__class__"))(mo:W.mroIn K C (.type "object")=M Zl)(hd:W.hasDictIn K C=Zl) (k1:W.kitOne K (.ref C) v=M b)(k2:W.exmOne K (.ref C) v=M b)(r:All (XP K v) l):All (XP K v) ((x,b)::l):=.cons #[C,hx,#[ga,mb,gn,ca,mo,hd],k1,k2] r
theorem xiC(X:K.In h)(G:h.Ns ZJ mg)(hx:W.nsIn K ZJ x=M (M<|.ref C))(u:All (XP K<|.ref C) m)(r:All (λq:Str×Wh=>∃v,(mg q.1=M v\/(mg q.1=Z/\kT q.1=M v))/\All (λp:Str×Bool=>∃C,W.nsIn K ZJ p.1=M (M<|.ref C)/\nu K C/\W.kitOne K (.ref C) v=M p.2/\W.exmOne K (.ref C) v=M p.2) q.2) l):All (λq:Str×Wh=>∃v,(mg q.1=M v\/(mg q.1=Z/\kT q.1=M v))/\All (λp:Str×Bool=>∃C,W.nsIn K ZJ p.1=M (M<|.ref C)/\nu K C/\W.kitOne K (.ref C) v=M p.2/\W.exmOne K (.ref C) v=M p.2) q.2) ((x,m)::l):=.cons #[_,.inl<|W.mg_of X G hx,u] r
theorem bsC(X:K.In h)(G:h.Ns ZJ mg)(hx:W.nsIn K ZJ x=M (M<|.ref C))(sp:W.specialIn K (.ref C) "__getattribute__"=M (M<|.builtin "type.__getattribute__"))(rd:W.readsIn K C (.type "type")=Zl)(j:W.findIn K (.ref C) "__init__"=M (M<|.ref a))(fc:W.findCls K (.ref C) (.type "type") "__init__"=M (.val<|.ref a))(kp:W.keepIn K (.ref a)=Zl)(r:All (λx=>∃C,mg x=M (.ref C)/\kG K C) l):All (λx=>∃C,mg x=M (.ref C)/\kG K C) (x::l):=.cons #[C,W.mg_of X G hx,sp,rd,a,j,fc,kp] r
def last(xs)(X:K.In h)(G:h.Ns ZJ mg)(j:mg "law"=M (.ref fa))(hp:d.ps=[p])(hs:jI d.N d.ps (Qm d.st)=Zl)(hd:d.bI=[])(C:d.qual="law")(k:∀us:Tu,us.length=d.ps.length->tD (W.fnOf "law" "law" (VF d.st) (Vd d.st) (Qm d.st) .none kV dc pm an cd ct) #[us,[]]=pure (d.ps.zip us)) (ha:W.nsIn K ZJ "law"=M (M<|.ref a))(hl:K.lookup a=M #[oc,od,.func<|W.fnOf "law" "law" (VF d.st) (Vd d.st) (Qm d.st) .none kV dc pm an cd ct,sl])(m:W.codeIn K cd "law"=Zl)(hk:W.keepIn K (.ref a)=Zl)(c:CN K T.kI xs ces)(bD:All (λp:Str×ZD=>iZ K p.2/\All (λf=>QZ K p.2 f) T.kI) ces->gB (fE ces) T K mg):∃fd:j5,(∀(s:Zy)(u:Zu),r8 s fd #[[u],[]] [(p,u)])/\∀base:bp,K.In base->base.Ns ZJ mg->QE mg base->cq prog w K mg base (fR prog w) 64 fa fd [p] (XW K p<|run T 16 d):=by have e:=W.mg_of X G ha;rw[j]at e;cases e;show#[_,λs u=>.of_eq ((k [u]<|by rw[hp];rfl).trans<|by rw[hp];rfl),λbase _ _ B=>J0e (bD c.all) (λ_=>B) 16 hp<|IZ hs hd C hl m hk<|.all k]
end
end L4
local macro_rules|`($c:char)=>let n:=c.getChar.toNat;if n<58 then `(L3.eC<|.int $(Lean.quote (n-48))) else `(L3.Ja $(Lean.quote (n-97)))
namespace LW
theorem Kaz{α:Sort _}{p:α->Prop}{j:α}:(∃a,j=a/\p a)↔p j:=exists_eq_left'
theorem Kbz{α:Sort _}{p:α->Prop}{j:α}:(∃a,a=j/\p a)↔p j:=exists_eq_left
theorem Kcz(a b:Bool):(L3.IV.bl a=L3.IV.bl b)=(a=b):=L3.IV.bl.injEq a b
theorem Kdz(a b:Int):(L3.IV.int a=L3.IV.int b)=(a=b):=L3.IV.int.injEq a b
theorem Kez(a b:Nat):(L3.IV.ref a=L3.IV.ref b)=(a=b):=L3.IV.ref.injEq a b
theorem Kfz(a b:PySem.Str):(L3.IV.str a=L3.IV.str b)=(a=b):=L3.IV.str.injEq a b
theorem Kgz(a b:List L3.IV):(L3.IV.tup a=L3.IV.tup b)=(a=b):=L3.IV.tup.injEq a b
theorem Khz(a b:List L3.IV):(L3.IX.lst a=L3.IX.lst b)=(a=b):=L3.IX.lst.injEq a b
theorem Kiz{α:Type _}(a b:α):(M a=M b)=(a=b):=Option.some.injEq a b
theorem Kjz:(!true)=Zm:=Bool.not_true
theorem Kkz:(!false)=Zl:=Bool.not_false
theorem Klz:(Zl=Zm)=False:=Bool.true_eq_false
theorem Kmz:(Zm=Zl)=False:=sy
theorem Knz{α β:Type _}(a:α)(f:α->Option β):(M a).bind f=f a:=Option.bind_some a f
theorem Koz(p:Prop):(True->p)=p:=true_implies p
theorem Kpz(p:Prop):(False->p)=True:=false_implies p
theorem Kqz(α:Sort _):(α->True)=True:=implies_true α
theorem Krz{α:Type _}{a b:α}{l:List α}{n:Nat}:(a::l).set (n+1) b=a::l.set n b:=List.set_cons_succ
theorem Ksz{α:Type _}{a b:α}{l:List α}:(a::l).set 0 b=b::l:=vH
theorem Ktz{α:Type _}{a:α}{l m:List α}:(a::l)++m=a::(l++m):=j8
theorem Kuz{α:Type _}(l:List α):[]++l=l:=mZ l
theorem Kvz{α:Type _}(l:List α):l++[]=l:=lL l
end LW
namespace LW
open PySem L2 L3 L4
noncomputable def top (i:Nat):gk:=PySem.Challenge.pw_dutyproof_k64_judged_by_the_nearest_due.main.body.getD i<|.Pass #[0,0,0,0]
def psD:gk->Tj|.FunctionDef _ a _ _ _ _ _ _ _ _=>a.args.map (·.arg)|_=>[]
def mD(q:Str)(s:gk):D4:=#[s,q,psD s,(Qm s).names.filterMap λp=>if p.2==.local||p.2==.cell then M p.1 else Z,[]]
def I8:D4:=mD "is_whole"<|top 9
def I9:D4:=mD "is_whole_from"<|top 10
def Jt:D4:=mD "rounds_up"<|top 11
def J3:D4:=mD "ready"<|top 18
def Ka:D4:=mD "due_at"<|top 19
def Kb:D4:=mD "is_coming"<|top 20
def Kc:D4:=mD "first_wrong"<|top 21
def Kd:D4:=mD "checked"<|top 22
def Ke:D4:=mD "is_name"<|top 29
def Kf:D4:=mD "is_hold"<|top 30
def Kg:D4:=mD "lie_apart"<|top 31
def Kh:D4:=mD "lies_in"<|top 32
def Ki:D4:=mD "go_together"<|top 33
def Kj:D4:=mD "all_go_together"<|top 34
def Kk:D4:=mD "own_holds"<|top 35
def Kl:D4:=mD "own_due"<|top 36
def Km:D4:=mD "Work.__init__"<|JT (top 37) 0
def Kn:D4:=mD "Work.held"<|JT (top 37) 1
def Ko:D4:=mD "next_stop"<|top 42
def Kq:D4:=mD "Bench.__init__"<|JT (top 43) 0
def Kr:D4:=mD "Bench.next_ready"<|JT (top 43) 1
def Ks:D4:=mD "Bench.let_in"<|JT (top 43) 2
def Kt:D4:=mD "Bench.turns_for"<|JT (top 43) 3
def Ku:D4:=mD "Bench.tell"<|JT (top 43) 4
def Kv:D4:=mD "Bench.go_on"<|JT (top 43) 5
def Kw:D4:=mD "run"<|top 44
def Kx:D4:=mD "ends"<|top 45
def Ky:D4:=mD "missed"<|top 46
def Kz:D4:=mD "ceilings"<|top 48
def KA:D4:=mD "refuse_holds"<|top 49
def KC:D4:=mD "comings_in"<|top 51
def KD:D4:=mD "dues_in"<|top 54
def KG:D4:=mD "demand"<|top 55
def KH:D4:=mD "asked"<|top 56
def KI:D4:=mD "crowded"<|top 57
def KJ:D4:=mD "refuse_crowded"<|top 58
def KL:D4:=mD "bends"<|top 59
def KN:D4:=mD "first_overdrawn"<|top 60
def KO:D4:=mD "spans"<|top 61
def KP:D4:=mD "thronged"<|top 63
def KQ:D4:=#[top 64,"packed",["duty","span"],["duty","span","start","row","at","work"],[]]
def KR:D4:=mD "Order.__init__"<|JT (top 66) 0
def Cn:D4:=mD "Order.holds"<|JT (top 66) 2
def Co:D4:=mD "Order.pick"<|JT (top 66) 3
def Cp:D4:=mD "Order.standing"<|JT (top 66) 4
def KS:D4:=mD "ByDue.__init__"<|JT (top 67) 0
def KU:D4:=mD "ByDue.rank_of"<|JT (top 67) 1
def KW:D4:=mD "own_copy"<|top 69
def KY:D4:=mD "Kept.__init__"<|JT (top 72) 0
def KZ:D4:=mD "Kept.kept"<|JT (top 72) 1
def K0:D4:=mD "Broken.__init__"<|JT (top 73) 0
def K5:D4:=mD "Broken.kept"<|JT (top 73) 1
def K6:D4:=mD "broken_at"<|top 74
def K8:D4:=mD "judge_due"<|top 75
def K9:D4:=mD "own_works"<|top 79
def La:D4:=mD "crowd_of"<|top 80
def Lb:D4:=mD "Duty.__init__"<|JT (top 81) 0
def Lc:D4:=mD "Duty.size"<|JT (top 81) 1
def Ld:D4:=mD "Duty.work"<|JT (top 81) 2
def Le:D4:=mD "_law_cell_at"<|top 83
def Lf:D4:=mD "_law_stream"<|top 84
def Lg:D4:=mD "_law_word"<|top 85
def Lh:D4:=mD "_law_holds"<|top 86
def Li:D4:=mD "_law_plain"<|top 87
def Lk:D4:=#[top 88,"_law_some",["_law_script","_law_held"],["_law_script","_law_held","_law_first","_law_unit","_law_second","_law_words","_law_some_here","_law_k","_law_plain_here"],[]]
def Ll:D4:=mD "_law_whole"<|top 89
def Lm:D4:=mD "_law_right"<|top 90
def Ln:D4:=mD "_law_legal"<|top 91
def Lp:D4:=mD "_law_end"<|top 92
def Lq:D4:=mD "_law_demand"<|top 93
def Lr:D4:=mD "_law_comings"<|top 94
def Ls:D4:=mD "_law_asked"<|top 95
def Lu:D4:=mD "_law_last"<|top 96
def Lv:D4:=mD "_law_is_too_much"<|top 97
def Lw:D4:=mD "_law_due"<|top 98
def Lx:D4:=mD "_law_judged"<|top 99
def Ly:D4:=mD "_law_packed"<|top 100
def Lz:D4:=mD "_law_breaks"<|top 101
def LA:D4:=mD "_law_full_bench"<|top 102
def LB:D4:=mD "_law_no_longer"<|top 103
def Cq:D4:=mD "law"<|top 104
def T:Tab where
 fns:=[(("is_whole":Str),I8),(("is_whole_from":Str),I9),(("rounds_up":Str),Jt),(("ready":Str),J3),(("due_at":Str),Ka),(("is_coming":Str),Kb),(("first_wrong":Str),Kc),(("checked":Str),Kd),(("is_name":Str),Ke),(("is_hold":Str),Kf),(("lie_apart":Str),Kg),(("lies_in":Str),Kh),(("go_together":Str),Ki),(("all_go_together":Str),Kj),(("own_holds":Str),Kk),(("own_due":Str),Kl),(("next_stop":Str),Ko),(("run":Str),Kw),(("ends":Str),Kx),(("missed":Str),Ky),(("ceilings":Str),Kz),(("refuse_holds":Str),KA),(("comings_in":Str),KC),(("dues_in":Str),KD),(("demand":Str),KG),(("asked":Str),KH),(("crowded":Str),KI),(("refuse_crowded":Str),KJ),(("bends":Str),KL),(("first_overdrawn":Str),KN),(("spans":Str),KO),(("thronged":Str),KP),(("packed":Str),KQ),(("own_copy":Str),KW),(("broken_at":Str),K6),(("judge_due":Str),K8),(("own_works":Str),K9),(("crowd_of":Str),La),(("_law_cell_at":Str),Le),(("_law_stream":Str),Lf),(("_law_word":Str),Lg),(("_law_holds":Str),Lh),(("_law_plain":Str),Li),(("_law_some":Str),Lk),(("_law_whole":Str),Ll),(("_law_right":Str),Lm),(("_law_legal":Str),Ln),(("_law_end":Str),Lp),(("_law_demand":Str),Lq),(("_law_comings":Str),Lr),(("_law_asked":Str),Ls),(("_law_last":Str),Lu),(("_law_is_too_much":Str),Lv),(("_law_due":Str),Lw),(("_law_judged":Str),Lx),(("_law_packed":Str),Ly),(("_law_breaks":Str),Lz),(("_law_full_bench":Str),LA),(("_law_no_longer":Str),LB),(("law":Str),Cq)]
 oQ:=[("Work",Km),("Bench",Kq),("Order",KR),("ByDue",KS),("Kept",KY),("Broken",K0),("Duty",Lb)]
 meths:=[("Work",([("held",Kn)]:Wq)),("Bench",([("next_ready",Kr),("let_in",Ks),("turns_for",Kt),("tell",Ku),("go_on",Kv)]:Wq)),("Order",([("holds",Cn),("pick",Co),("standing",Cp)]:Wq)),("ByDue",([("rank_of",KU),("holds",Cn),("pick",Co),("standing",Cp)]:Wq)),("Verdict",([]:Wq)),("Kept",([("kept",KZ)]:Wq)),("Broken",([("kept",K5)]:Wq)),("Duty",([("size",Lc),("work",Ld)]:Wq))]
 cons:=[("MOST_COMINGS",.int 200),("AT",.int 0),("COME",.int 1),("LATE",.int 2),("LENGTH",.int 3),("MOST_LETTERS",.int 8),("MOST_HOLDS",.int 6),("THING",.int 0),("START",.int 1),("END",.int 2),("PLACE",.int 0),("FROM",.int 1),("UNTIL",.int 2),("MOST_CROWDED",.int 200),("MOST_WORKS",.int 12),("MOST_CROWD",.int 80)]
 oR:=[("Work",["Work"]),("Kept",["Kept"]),("Broken",["Broken"])]
 kI:=["append","dones","due","duty","extend","gap","hold_tuples","join","late","later","length","lines","name","order","place","pop","remove","row","setdefault","stretches","turn","waiting","works"]
 frees:=["all","bool","enumerate","int","isinstance","len","list","max","min","range","set","sorted","str","sum","tuple"]
 tabs:=["Order.pick","Bench.__init__"]
 oS:=["TooMany","HoldsThings"]
 rl:=[("HoldsThings",[("TooMany",Zm),("HoldsThings",Zl)]),("TooMany",[("TooMany",Zl),("HoldsThings",Zm)])]
 oU:=["Order"]
def Cr:Str->Wv:=λc=>Qb c [("TooMany",Zm),("HoldsThings",Zl)]
def LD:Str->Wv:=λc=>Qb c [("TooMany",Zl),("HoldsThings",Zm)]
abbrev pg(k:Nat):Pg:=oV T<|run T k
section
variable(k:Nat)(x0 x1 x2 x3 x4 x5 x6:IV)(h:IH)
abbrev xO:=run T k I8
abbrev Vu:=run T k I9
abbrev xP:=run T k Jt
abbrev xQ:=run T k J3
abbrev Xv:=run T k Ka
abbrev Cs:=run T k Kb
abbrev Ct:=run T k Kc
abbrev Cu:=run T k Kd
abbrev xR:=run T k Ke
abbrev Cv:=run T k Kf
abbrev Cw:=run T k Kg
abbrev xS:=run T k Kh
abbrev Cy:=run T k Ki
abbrev Cz:=run T k Kj
abbrev Ym:=run T k Kk
abbrev Yl:=run T k Kl
abbrev xT:=run T k Km
abbrev CA:=run T k Kn
abbrev CB:=run T k Ko
abbrev CC:=run T k Kq
abbrev CD:=run T k Kr
abbrev CF:=run T k Ks
abbrev CG:=run T k Kt
abbrev CH:=run T k Ku
abbrev CI:=run T k Kv
abbrev xU:=run T k Kw
abbrev CJ:=run T k Kx
abbrev CK:=run T k Ky
abbrev CL:=run T k Kz
abbrev Yn:=run T k KA
abbrev xV:=run T k KC
abbrev Xf:=run T k KD
abbrev CM:=run T k KG
abbrev Yh:=run T k KH
abbrev xW:=run T k KI
abbrev CO:=run T k KJ
abbrev CP:=run T k KL
abbrev CQ:=run T k KN
abbrev CS:=run T k KO
abbrev CT:=run T k KP
abbrev CU:=run T k KQ
abbrev CV:=run T k KR
abbrev CW:=run T k Cn
abbrev xX:=run T k Co
abbrev CY:=run T k Cp
abbrev Yg:=run T k KS
abbrev CZ:=run T k KU
abbrev xY:=run T k KW
abbrev xZ:=run T k KY
abbrev C0:=run T k KZ
abbrev C1:=run T k K0
abbrev C2:=run T k K5
abbrev C5:=run T k K6
abbrev C6:=run T k K8
abbrev C7:=run T k K9
abbrev C8:=run T k La
abbrev x8:=run T k Lb
abbrev C9:=run T k Lc
abbrev Dc:=run T k Ld
abbrev V9:=run T k Le
abbrev Dd:=run T k Lf
abbrev x9:=run T k Lg
abbrev De:=run T k Lh
abbrev Df:=run T k Li
abbrev Dg:=run T k Lk
abbrev Yk:=run T k Ll
abbrev Dh:=run T k Lm
abbrev ya:=run T k Ln
abbrev Di:=run T k Lp
abbrev Dj:=run T k Lq
abbrev yb:=run T k Lr
abbrev Yj:=run T k Ls
abbrev Dl:=run T k Lu
abbrev yc:=run T k Lv
abbrev Dm:=run T k Lw
abbrev Dn:=run T k Lx
abbrev Dp:=run T k Ly
abbrev Ds:=run T k Lz
abbrev Dv:=run T k LA
abbrev Dw:=run T k LB
abbrev Yi:=run T k Cq
def Jj9(k:Nat):S1:=Jj<|c9 (cw wQ 'a') (lg (YB bJ)<|cw wR 'a') bJ
theorem Jm3:xO (k+1) [x0] h=(Jj9 k [M x0] h).fin:=02
def Jd8:S1:=Jj<|c9 (Jk (xO k) []<|Jb 'a' Je) (Jc oz 'a' 'b') bJ
theorem Je0:Vu (k+1) [x0,x1] h=(Jd8 k [M x0,M x1] h).fin:=02
def Ji0(k:Nat):S1:=Jj<|Jc JG (Jc JV (Jc Jr 'a' 'b') '1') 'b'
theorem Jlu:xP (k+1) [x0,x1] h=(Ji0 k [M x0,M x1] h).fin:=02
def Jq3(k:Nat):S1:=Jj<|Jc Jr (Jc Jh 'a' '1')<|Jc Jh 'a' '2'
theorem Jvl:xQ (k+1) [x0] h=(Jq3 k [M x0] h).fin:=02
def Jpp:S1:=Jj<|Jc Jr (Jc Jh 'b' '1')<|Jm "due"<|Ju (pg k) "work" 1 'a'<|Jb (Jc Jh 'b' '0') Je
theorem Jr8:Xv (k+1) [x0,x1] h=(Jpp k [M x0,M x1] h).fin:=02
def LF:E1:=Jk (xO k) []<|Jb 'a' Je
def Jip:S1:=Jg (aU (cE (J7<|Ji bJ<|cw Xx 'b')<|Ji aM<|Jc eL (aR (aP aT)<|Jb 'b' Je) '4') (Jj<|eC<|.bl Zm) Jp)<|Jg (aU (J7<|Ji bJ<|aR (aP allI)<|Jb (Jv (Jq 'b') 1 [] (aF 0) J2<|LF k) Je) (Jj<|eC<|.bl Zm) Jp)<|Jg (aU (cE (J7<|Ji aM<|JO dr jD '0' (Jc Jh 'b' '0')<|Ju (pg k) "size" 0 'a' Je)<|Ji aM<|Jc jD (Jc Jh 'b' '1') '0') (Jj<|eC<|.bl Zm) Jp)<|Jg (Jl 2<|Ju (pg k) "work" 1 'a'<|Jb (Jc Jh 'b' '0') Je)<|Jj<|c9 (JO dr dr '0' (Jc Jh 'b' '2')<|Jm "late" 'c') (JO dr dr '1' (Jc Jh 'b' '3')<|Jm "length" 'c') bJ
theorem Jli:Cs (k+1) [x0,x1] h=(Jip k [M x0,M x1,Z] h).fin:=02
def Jfl:S1:=Jg (Jl 2 X6)<|Jg (bP (dM QJ<|Jb 'b' Je) (iF 2<|gC (aF 3)<|gC (aF 4) gN)<|Jg (aU (J7<|Ji bJ<|Jk (Cs k) []<|Jb 'a'<|Jb 'e' Je) (Jj 'd') Jp)<|Jg (Jl 5<|Jc Jh 'e' '0')<|Jg (aU (Qs (Ji aM<|Jc hJ 'f' 'c')<|Ji aM<|Jc jD (Jc JV (Jc Jh 'e' '1')<|Jc VO 'c' 'f')<|Jm "gap"<|Ju (pg k) "work" 1 'a'<|Jb 'f' Je) (Jj 'd') Jp)<|ei (Jc Jh 'e' '1')<|hU 'c' 'f')<|Jj<|eC .aw
theorem Jhc:Ct (k+1) [x0,x1] h=(Jfl k [M x0,M x1,Z,Z,Z,Z] h).fin:=02
def Jmj:S1:=Jg (aU (Ji aM<|Jc fg (aR (aP aT)<|Jb 'b' Je)<|eC<|.int 200) (Vp "TooMany"<|Jb (eC<|.str "a row that is run or looked at has at most two hundred comings") Je) Jp)<|Jg (Jl 2<|Jk (Ct k) []<|Jb 'a'<|Jb 'b' Je)<|aU (Ji aM<|Jc Xh 'c'<|eC .aw) cz Jp
theorem Jpu:Cu (k+1) [x0,x1] h=(Jmj k [M x0,M x1,Z] h).fin:=02
def yd(k:Nat):E1:=JO dr dr (eC<|.str "a") 'a'<|eC<|.str "z"
def Jmn:S1:=Jg (aU (cE (J7<|Ji bJ<|cw AV 'a')<|J7<|Ji aM<|JO dr dr '1' (aR (aP aT)<|Jb 'a' Je) '8') (Jj<|eC<|.bl Zm) Jp)<|Jj<|aR (aP allI)<|Jb (Jv (Jq 'a') 1 [] (aF 0) J2<|yd k) Je
theorem Jpy:xR (k+1) [x0] h=(Jmn k [M x0] h).fin:=02
def Jmm:S1:=Jg (aU (cE (J7<|Ji bJ<|cw Xx 'a')<|cE (Ji aM<|Jc eL (aR (aP aT)<|Jb 'a' Je) '3')<|J7<|Ji bJ<|Jk (xR k) []<|Jb (Jc Jh 'a' '0') Je) (Jj<|eC<|.bl Zm) Jp)<|Jg (aU (J7<|Ji bJ<|Jk (Vu k) []<|Jb (Jc Jh 'a' '1')<|Jb '0' Je) (Jj<|eC<|.bl Zm) Jp)<|Jj<|c9 (Jk (Vu k) []<|Jb (Jc Jh 'a' '2')<|Jb (Jc Jr (Jc Jh 'a' '1') '1') Je) (Jc jD (Jc Jh 'a' '2') 'b') bJ
theorem Jpx:Cv (k+1) [x0,x1] h=(Jmm k [M x0,M x1] h).fin:=02
def Jiw(k:Nat):S1:=Jj<|sO (Jc dr (Jc Jh 'a' '2')<|Jc Jh 'b' '1') (Jc dr (Jc Jh 'b' '2')<|Jc Jh 'a' '1') bJ
theorem Jlq:Cw (k+1) [x0,x1] h=(Jiw k [M x0,M x1] h).fin:=02
def Jmq(k:Nat):S1:=Jj<|c9 (Jc dr (Jc Jh 'b' '1')<|Jc Jh 'a' '1') (Jc dr (Jc Jh 'a' '2')<|Jc Jh 'b' '2') bJ
theorem Jp1:xS (k+1) [x0,x1] h=(Jmq k [M x0,M x1] h).fin:=02
def Jfm:S1:=Jg (aU (Ji bJ<|Jk (Cw k) []<|Jb 'a'<|Jb 'b' Je) (Jj<|eC<|.bl Zl) Jp)<|Jg (aU (Ji aM<|Jc eA (Jc Jh 'a' '0')<|Jc Jh 'b' '0') (Jj<|eC<|.bl Zm) Jp)<|Jj<|sO (Jk (xS k) []<|Jb 'a'<|Jb 'b' Je) (Jk (xS k) []<|Jb 'b'<|Jb 'a' Je) bJ
theorem Jhd:Cy (k+1) [x0,x1] h=(Jfm k [M x0,M x1] h).fin:=02
def LG:E1:=Jk (Cy k) []<|Jb 'b'<|Jb 'a' Je
def Jc1:S1:=Jg (bP (dM QJ<|Jb 'a' Je) (iF 2<|gC (aF 1)<|gC (aF 2) gN)<|aU (J7<|Ji bJ<|aR (aP allI)<|Jb (Jv (Jq<|lu l7 'a' V3<|V4 'b') 1 [2] (aF 0) J2<|LG k) Je) (Jj<|eC<|.bl Zm) Jp)<|Jj<|eC<|.bl Zl
theorem Jdy:Cz (k+1) [x0] h=(Jc1 k [M x0,Z,Z] h).fin:=02
def Dx:E1:=Jk (Cv k) []<|Jb 'a'<|Jb 'b' Je
def LH(k:Nat):E1:=bO<|Jb (Jc Jh 'a' '0')<|Jb (Jc Jh 'a' '1')<|Jb (Jc Jh 'a' '2') Je
def Jiy:S1:=Jg (aU (Ji aM<|Jc qO 'a'<|eC .aw) (Jj<|bO Je) Jp)<|Jg (aU (J7<|Ji bJ<|cw VC 'a') cz Jp)<|Jg (aU (Ji aM<|Jc fg (aR (aP aT)<|Jb 'a' Je) '6') cz Jp)<|Jg (aU (J7<|Ji bJ<|aR (aP allI)<|Jb (Jv (Jq 'a') 1 [1] (aF 0) J2<|Dx k) Je) cz Jp)<|Jg (aU (J7<|Ji bJ<|Jk (Cz k) []<|Jb 'a' Je) cz Jp)<|Jj<|aR (aP VZ)<|Jb (Jv (Jq 'a') 1 [] (aF 0) J2<|LH k) Je
theorem Jls:Ym (k+1) [x0,x1] h=(Jiy k [M x0,M x1] h).fin:=02
def Jmr:S1:=Jg (aU (Ji aM<|Jc qO 'a'<|eC .aw) (Jj 'b') Jp)<|Jg (aU (cE (J7<|Ji bJ<|Jk (Vu k) []<|Jb 'a'<|Jb '1' Je)<|Ji aM<|Jc fg 'a' 'b') cz Jp)<|Jj 'a'
theorem Jp2:Yl (k+1) [x0,x1] h=(Jmr k [M x0,M x1] h).fin:=02
def LI:S1:=JL "hold_tuples" 'a'<|Jk (Ym k) []<|Jb 'g'<|Jb 'd' Je
def Jin:S1:=Jg (aU (J7<|Ji bJ<|Jk (xR k) []<|Jb 'b' Je) cz Jp)<|Jg (aU (J7<|Ji bJ<|Jk (Vu k) []<|Jb 'c'<|Jb '1' Je) cz Jp)<|Jg (aU (J7<|Ji bJ<|Jk (Vu k) []<|Jb 'd'<|Jb '1' Je) cz Jp)<|Jg (aU (J7<|Ji bJ<|Jk (Vu k) []<|Jb 'f'<|Jb '0' Je) cz Jp)<|Jg (JL "name" 'a' 'b')<|Jg (JL "gap" 'a' 'c')<|Jg (JL "length" 'a' 'd')<|Jg (JL "due" 'a'<|Jk (Yl k) []<|Jb 'e'<|Jb 'c' Je)<|Jg (JL "late" 'a' 'f')<|LI k
theorem Jlg:xT (k+1) [x0,x1,x2,x3,x4,x5,x6] h=(Jin k [M x0,M x1,M x2,M x3,M x4,M x5,M x6] h).fin:=02
def Jim(k:Nat):S1:=Jj<|aR (aP Vl)<|Jb (Jm "hold_tuples" 'a') Je
theorem Jlf:CA (k+1) [x0] h=(Jim k [M x0] h).fin:=02
def Jix:S1:=Jj<|aR (aP XF)<|Jb (Jc Jr (J0<|Jb 'c' Je)<|Jv (Jq<|Ju (pg k) "held" 0 'a' Je) 1 [1] (aF 0) (Ji aM<|Jc fg (Jc Jh 'a' '2') 'b')<|Jc Jh 'a' '2') Je
theorem Jlr:CB (k+1) [x0,x1,x2] h=(Jix k [M x0,M x1,M x2] h).fin:=02
def X1:E1:=Jk (xQ k) []<|Jb (Jc Jh 'b' 'a') Je
def LJ(k:Nat):S1:=JL "stretches" 'a'<|J0 Je
def Jgt:S1:=Jg (JL "order" 'a' 'b')<|Jg (JL "row" 'a' 'c')<|Jg (JL "dones" 'a'<|Jv (Jq 'c') 1 [] (aF 0) J2 '0')<|Jg (JL "later" 'a'<|Yy "Bench.__init__" 1 [2] (Jb (aR (aP aT)<|Jb 'c' Je) Je)<|X1 k)<|Jg (JL "waiting" 'a'<|J0 Je)<|Jg (JL "turn" 'a' '0')<|LJ k
theorem Jja:CC (k+1) [x0,x1,x2] h=(Jgt k [M x0,M x1,M x2] h).fin:=02
def Jcb:S1:=Jj<|Jk (xQ k) []<|Jb (Jc Jh (Jm "row" 'a')<|Jc Jh (Jm "later" 'a')<|lg Vo '1') Je
theorem Jc5:CD (k+1) [x0] h=(Jcb k [M x0] h).fin:=02
def LK:S1:=V5 (Qs (Ji aM<|Jc fg (aR (aP aT)<|Jb (Jm "later" 'a') Je) '0')<|Ji aM<|Jc dr (Ju (pg k) "next_ready" 0 'a' Je)<|Jm "turn" 'a')<|JH<|Ju (pg k) "append" 1 (Jm "waiting" 'a')<|Jb (Ju (pg k) "pop" 0 (Jm "later" 'a') Je) Je
def Jex:S1:=Jg (aU (Ji aM<|Jc eA (aR (aP aT)<|Jb (Jm "waiting" 'a') Je) '0') (JL "turn" 'a'<|aR (l8 jG)<|Jb (Jm "turn" 'a')<|Jb (Ju (pg k) "next_ready" 0 'a' Je) Je) Jp)<|LK k
theorem Jgf:CF (k+1) [x0] h=(Jex k [M x0] h).fin:=02
def Jc0:S1:=Jg (Jl 2<|Jc Jh (Jm "row" 'a') 'b')<|Jg (Jl 3<|Jc Jh (Jm "dones" 'a') 'b')<|Jg (Jl 4<|Jc JV (Jk (CB k) []<|Jb (Ju (pg k) "work" 1 (Jm "duty"<|Jm "order" 'a')<|Jb (Jc Jh 'c' '0') Je)<|Jb 'd'<|Jb (Jc Jh 'c' '3') Je) 'd')<|Jg (aU (Ji aM<|Jc fg (aR (aP aT)<|Jb (Jm "later" 'a') Je) '0') (Jl 4<|aR (l8 oG)<|Jb 'e'<|Jb (Jc JV (Ju (pg k) "next_ready" 0 'a' Je)<|Jm "turn" 'a') Je) Jp)<|Jj 'e'
theorem Jdx:CG (k+1) [x0,x1] h=(Jc0 k [M x0,M x1,Z,Z,Z] h).fin:=02
def LL:S1:=JH<|Ju (pg k) "append" 1 (Jm "stretches" 'a')<|Jb (bO<|Jb 'b'<|Jb 'd'<|Jb 'c' Je) Je
def Jgu:S1:=Jg (Jl 3<|Jm "turn" 'a')<|Jg (aU (Qs (Ji aM<|Jc fg (aR (aP aT)<|Jb (Jm "stretches" 'a') Je) '0')<|Ji aM<|Jc eA (Jc Jh (Jc Jh (Jm "stretches" 'a')<|lg Vo '1') '0') 'b') (Jl 3<|Jc Jh (Ju (pg k) "pop" 0 (Jm "stretches" 'a') Je) '1') Jp)<|LL k
theorem Jjb:CH (k+1) [x0,x1,x2] h=(Jgu k [M x0,M x1,M x2,Z] h).fin:=02
def Jfh:S1:=Jg (JH<|Ju (pg k) "let_in" 0 'a' Je)<|Jg (Jl 1<|Ju (pg k) "pick" 3 (Jm "order" 'a')<|Jb (Jm "row" 'a')<|Jb (Jm "waiting" 'a')<|Jb (Jm "dones" 'a') Je)<|Jg (Jl 2<|Ju (pg k) "turns_for" 1 'a'<|Jb 'b' Je)<|Jg (JH<|Ju (pg k) "tell" 2 'a'<|Jb 'b'<|Jb (Jc Jr (Jm "turn" 'a') 'c') Je)<|Jg (XR .Add "turn" 'a' 'c')<|Jg (XS .Add (Jm "dones" 'a') 'b' 'c')<|aU (Ji aM<|Jc eA (Jc Jh (Jm "dones" 'a') 'b')<|Jc Jh (Jc Jh (Jm "row" 'a') 'b') '3') (JH<|Ju (pg k) "remove" 1 (Jm "waiting" 'a')<|Jb 'b' Je) Jp
theorem Jg8:CI (k+1) [x0] h=(Jfh k [M x0,Z,Z] h).fin:=02
def Jy5:S1:=Jg (JH<|Jk (Cu k) []<|Jb (Jm "duty" 'a')<|Jb 'b' Je)<|Jg (Jl 2<|Qx "Bench" (CC k) []<|Jb 'a'<|Jb 'b' Je)<|Jg (V5 (Ji aM<|Jc fg (Jc Jr (aR (aP aT)<|Jb (Jm "later" 'c') Je)<|aR (aP aT)<|Jb (Jm "waiting" 'c') Je) '0')<|JH<|Ju (pg k) "go_on" 0 'c' Je)<|Jj<|Jm "stretches" 'c'
theorem J3d:xU (k+1) [x0,x1] h=(Jy5 k [M x0,M x1,Z] h).fin:=02
def LM(k:Nat):E1:=Jc VO 'b' 'a'
def Ju1:S1:=Jg (Jl 2 X6)<|Jg (bP (Jq<|Jk (xU k) []<|Jb 'a'<|Jb 'b' Je) (aF 3)<|ei (Jc Jh 'd' '2')<|hU 'c'<|Jc Jh 'd' '0')<|Jj<|Jv (dM Qh<|Jb (aR (aP aT)<|Jb 'b' Je) Je) 1 [2] (aF 0) J2<|LM k
theorem Jzr:CJ (k+1) [x0,x1] h=(Ju1 k [M x0,M x1,Z,Z] h).fin:=02
def Jpq:S1:=Jg (Jl 2<|Jk (CJ k) []<|Jb 'a'<|Jb 'b' Je)<|Jj<|Jv (dM QJ<|Jb 'b' Je) 2 [0,2] (iF 2<|gC (aF 0)<|gC (aF 1) gN) (Ji aM<|Jc fg (Jc Jh 'd' 'a')<|Jk (Xv k) []<|Jb (Jm "duty" 'c')<|Jb 'b' Je) 'a'
theorem Jr9:CK (k+1) [x0,x1] h=(Jpq k [M x0,M x1,Z] h).fin:=02
def Jj7:S1:=Jg (Jl 1 X6)<|Jg (bP (dM Qh<|Jb (Ju (pg k) "size" 0 'a' Je) Je) (aF 2)<|bP (Jq<|Ju (pg k) "held" 0 (Ju (pg k) "work" 1 'a'<|Jb 'c' Je) Je) (aF 3)<|JH<|Ju (pg k) "setdefault" 2 'b'<|Jb (Jc Jh 'd' '0')<|Jb 'c' Je)<|Jj 'b'
theorem Jm1:CL (k+1) [x0] h=(Jj7 k [M x0,Z,Z,Z] h).fin:=02
def LN:S1:=aU (Ji aM<|Jc fg (aR (aP Xp)<|Jb (Jk (CL k) []<|Jb 'a' Je) Je) '0') (Vp "HoldsThings"<|Jb (eC<|.str "a work of the duty holds a shared thing") Je) Jp
theorem Jgg:Yn (k+1) [x0] h=(LN k [M x0] h).fin:=02
def Jgy:S1:=Jj<|oy (Ji aM<|Jc oz 'b' '1') (Jk (xP k) []<|Jb (Jc Jr 'b'<|Jm "late" 'a')<|Jb (Jm "gap" 'a') Je) '0'
theorem Jjf:xV (k+1) [x0,x1] h=(Jgy k [M x0,M x1] h).fin:=02
def Jml(k:Nat):S1:=Jg (Jl 2<|Jc JV (Jc Jr 'b'<|Jm "late" 'a')<|Jm "due" 'a')<|Jj<|oy (Ji aM<|Jc oz 'c' '0') (Jc Jr (Jc JG 'c'<|Jm "gap" 'a') '1') '0'
theorem Jpw:Xf (k+1) [x0,x1] h=(Jml k [M x0,M x1,Z] h).fin:=02
def Jpo:S1:=Jj<|aR (aP cW)<|Jb (Jv (Jq<|Jm "works" 'a') 1 [1] (aF 0) J2<|Jc Qc (Jk (Xf k) []<|Jb 'a'<|Jb 'b' Je)<|Jm "length" 'a') Je
theorem Jr7:CM (k+1) [x0,x1] h=(Jpo k [M x0,M x1] h).fin:=02
def Jq0:S1:=Jj<|aR (aP cW)<|Jb (Jv (Jq<|Jm "works" 'a') 1 [1] (aF 0) J2<|Jc Qc (Jk (xV k) []<|Jb 'a'<|Jb 'b' Je)<|Jm "length" 'a') Je
theorem Jvi:Yh (k+1) [x0,x1] h=(Jq0 k [M x0,M x1] h).fin:=02
def Jmk:S1:=Jj<|aR (aP cW)<|Jb (Jv (Jq<|Jm "works" 'a') 1 [1] (aF 0) J2<|Jk (xV k) []<|Jb 'a'<|Jb 'b' Je) Je
theorem Jpv:xW (k+1) [x0,x1] h=(Jmk k [M x0,M x1] h).fin:=02
def Jdl:S1:=aU (Ji aM<|Jc fg (Jk (xW k) []<|Jb 'a'<|Jb 'b' Je)<|eC<|.int 200) (Vp "TooMany"<|Jb (eC<|.str "more than 200 comings may be ready within the far") Je) Jp
theorem Jef:CO (k+1) [x0,x1] h=(Jdl k [M x0,M x1] h).fin:=02
def LO(k:Nat):E1:=Jc JV (Jc Jr (Jc Qc 'a'<|Jm "gap" 'b')<|Jm "due" 'b')<|Jm "late" 'b'
def Jq1:S1:=Jg (JH<|Jk (CO k) []<|Jb 'a'<|Jb 'b' Je)<|Jg (Jl 2<|J0 Je)<|Jg (bP (Jq<|Jm "works" 'a') (aF 3)<|JH<|Ju (pg k) "extend" 1 'c'<|Jb (Jv (dM Qh<|Jb (Jk (Xf k) []<|Jb 'd'<|Jb 'b' Je) Je) 1 [3] (aF 0) J2<|LO k) Je)<|Jj<|Yz<|Jb 'c' Je
theorem Jvj:CP (k+1) [x0,x1] h=(Jq1 k [M x0,M x1,Z,Z] h).fin:=02
def Jc2:S1:=Jg (bP (Jq<|Jk (CP k) []<|Jb 'a'<|Jb 'b' Je) (aF 2)<|aU (Ji aM<|Jc fg (Jk (CM k) []<|Jb 'a'<|Jb 'c' Je) 'c') (Jj 'c') Jp)<|Jj<|eC .aw
theorem Jdz:CQ (k+1) [x0,x1] h=(Jc2 k [M x0,M x1,Z] h).fin:=02
def LP(k:Nat):E1:=Jm "due" 'a'
def LQ(k:Nat):S1:=Jj 'b'
def Jq4:S1:=Jg (Jl 1<|J0<|Jb (Vx (Jb (Jv (Jq<|Jm "works" 'a') 1 [] (aF 0) J2<|LP k) Je) '1') Je)<|Jg (Jl 2<|Jk (Yh k) []<|Jb 'a'<|Jb (Jc Jh 'b'<|lg Vo '1') Je)<|Jg (V5 (Qs (Ji aM<|Jc fg 'c'<|Jc Jh 'b'<|lg Vo '1')<|Ji aM<|Jc dr (Jk (xW k) []<|Jb 'a'<|Jb 'c' Je)<|eC<|.int 200)<|Jg (JH<|Ju (pg k) "append" 1 'b'<|Jb 'c' Je)<|Jl 2<|Jk (Yh k) []<|Jb 'a'<|Jb 'c' Je)<|LQ k
theorem Jvm:CS (k+1) [x0] h=(Jq4 k [M x0,Z,Z] h).fin:=02
def LR(k:Nat):E1:=Jc Jr (Jc JV 'b'<|Jm "late" 'c')<|Jc Qc 'a'<|Jm "gap" 'c'
def LS(k:Nat):E1:=bO<|Jb 'b'<|Jb 'a'<|Jb (aR (l8 jG)<|Jb '0'<|Jb (Jc JV 'c' 'a') Je)<|Jb (Jm "length" 'd') Je
def Jkf:S1:=Jg (Jl 4<|Ju (pg k) "work" 1 'a'<|Jb 'b' Je)<|Jg (Jl 5<|Jv (dM Qh<|Jb 'd' Je) 1 [2,4] (aF 0) J2<|LR k)<|Jj<|Jv (Jq 'f') 1 [1,2,4] (aF 0) J2<|LS k
theorem Jm8:CT (k+1) [x0,x1,x2,x3] h=(Jkf k [M x0,M x1,M x2,M x3,Z,Z] h).fin:=02
def LU(k:Nat):E1:=Jm "late" 'a'
def Jpr:S1:=Jg (Jl 2<|Vx (Jb (Jv (Jq<|Jm "works" 'a') 1 [] (aF 0) J2<|LU k) Je) '0')<|Jg (Jl 3<|J0 Je)<|Jg (bP (dM QJ<|Jb (Jm "works" 'a') Je) (iF 2<|gC (aF 4)<|gC (aF 5) gN)<|JH<|Ju (pg k) "extend" 1 'd'<|Jb (Jk (CT k) []<|Jb 'a'<|Jb 'e'<|Jb 'c'<|Jb (Jk (Xf k) []<|Jb 'f'<|Jb 'b' Je) Je) Je)<|Jj<|bO<|Jb 'd'<|Jb 'c' Je
theorem Jsa:CU (k+1) [x0,x1] h=(Jpr k [M x0,M x1,Z,Z,Z,Z] h).fin:=02
def Jgw(k:Nat):S1:=JL "duty" 'a' 'b'
theorem Jjd:CV (k+1) [x0,x1] h=(Jgw k [M x0,M x1] h).fin:=02
def Jfk(k:Nat):S1:=Jj<|eC<|.bl Zm
theorem Jhb:CW (k+1) [x0,x1,x2] h=(Jfk k [M x0,M x1,M x2] h).fin:=02
def Jgx:S1:=Jj<|X7 j0 "Order.pick" 0 [3,1,0] (Jb 'c' Je)<|Jc Jr (Ju (pg k) "standing" 2 'd'<|Jb (Jc Jh 'c' 'a')<|Jb (Jc Jh 'b' 'a') Je)<|bO<|Jb 'a' Je
theorem Jje:xX (k+1) [x0,x1,x2,x3] h=(Jgx k [M x0,M x1,M x2,M x3] h).fin:=02
def Jda:S1:=Jj<|bO<|Jb (Ju (pg k) "rank_of" 2 'a'<|Jb 'b'<|Jb 'c' Je)<|Jb (oy (Ji bJ<|Ju (pg k) "holds" 2 'a'<|Jb 'b'<|Jb 'c' Je) '0' '1') Je
theorem Jed:CY (k+1) [x0,x1,x2] h=(Jda k [M x0,M x1,M x2] h).fin:=02
def Jgv:S1:=Jg (JH<|Jk (Yn k) []<|Jb 'b' Je)<|JH<|Jk (CV k) []<|Jb 'a'<|Jb 'b' Je
theorem Jjc:Yg (k+1) [x0,x1] h=(Jgv k [M x0,M x1] h).fin:=02
def Jd7:S1:=Jj<|Jk (Xv k) []<|Jb (Jm "duty" 'a')<|Jb 'b' Je
theorem Jez:CZ (k+1) [x0,x1,x2] h=(Jd7 k [M x0,M x1,M x2] h).fin:=02
def Jkd(k:Nat):S1:=Jj<|oy (Ji bJ<|cw VC 'a') (aR (aP Vl)<|Jb 'a' Je) 'a'
theorem Jm7:xY (k+1) [x0] h=(Jkd k [M x0] h).fin:=02
def Jik:S1:=JL "lines" 'a'<|Jk (xY k) []<|Jb 'b' Je
theorem Jld:xZ (k+1) [x0,x1] h=(Jik k [M x0,M x1] h).fin:=02
def Jil(k:Nat):S1:=Jj<|eC<|.bl Zl
theorem Jle:C0 (k+1) [x0] h=(Jil k [M x0] h).fin:=02
def Jfi:S1:=Jg (JL "row" 'a'<|Jk (xY k) []<|Jb 'b' Je)<|Jg (JL "place" 'a' 'c')<|JL "turn" 'a' 'd'
theorem Jg9:C1 (k+1) [x0,x1,x2,x3] h=(Jfi k [M x0,M x1,M x2,M x3] h).fin:=02
def Jfj(k:Nat):S1:=Jj<|eC<|.bl Zm
theorem Jha:C2 (k+1) [x0] h=(Jfj k [M x0] h).fin:=02
def Jio:S1:=Jj<|Qx "Broken" (C1 k) []<|Jb 'b'<|Jb 'c'<|Jb (Jk (Xv k) []<|Jb 'a'<|Jb (Jc Jh 'b' 'c') Je) Je
theorem Jlh:C5 (k+1) [x0,x1,x2] h=(Jio k [M x0,M x1,M x2] h).fin:=02
def LV:S1:=Jg (aU (Ji aM<|Jc fg (Jk (Yh k) []<|Jb 'a'<|Jb 'b' Je) 'b') (Vp "TooMany"<|Jb (eC<|.str "no far is found within which 200 comings at most may be ready") Je) Jp)<|Jj<|Qx "Kept" (xZ k) []<|Jb (J0<|Jb 'b' Je) Je
def LX:S1:=Jg (aU (Ji aM<|Jc Xh 'c'<|eC .aw) (Jg (Jl 3<|Jc Jh (Jk (CU k) []<|Jb 'a'<|Jb 'c' Je) '0')<|Jj<|Jk (C5 k) []<|Jb 'a'<|Jb 'd'<|Jb (Jc Jh (Jk (CK k) []<|Jb (Qx "ByDue" (Yg k) []<|Jb 'a' Je)<|Jb 'd' Je) '0') Je) Jp)<|LV k
def LY:S1:=Jg (Jl 2<|Jk (CQ k) []<|Jb 'a'<|Jb 'b' Je)<|LX k
def LZ:S1:=Jg (Jl 1<|Jc Jh (Jk (CS k) []<|Jb 'a' Je)<|lg Vo '1')<|LY k
def L0:S1:=Jg (JH<|Jk (Yn k) []<|Jb 'a' Je)<|LZ k
theorem Jlj:C6 (k+1) [x0] h=(L0 k [M x0,Z,Z,Z] h).fin:=02
def L1(k:Nat):E1:=cw (Xw ["Work"]) 'a'
def L5(k:Nat):E1:=Jm "name" 'a'
def Jiz:S1:=Jg (aU (J7<|Ji bJ<|cw VC 'a') cz Jp)<|Jg (aU (J7<|Ji bJ<|aR (aP allI)<|Jb (Jv (Jq 'a') 1 [] (aF 0) J2<|L1 k) Je) cz Jp)<|Jg (aU (Ji aM<|Jc eL (Yx<|Jb (Jv (Jq 'a') 1 [] (aF 0) J2<|L5 k) Je)<|aR (aP aT)<|Jb 'a' Je) cz Jp)<|Jj<|aR (aP VZ)<|Jb 'a' Je
theorem Jlt:C7 (k+1) [x0] h=(Jiz k [M x0] h).fin:=02
def Dy(k:Nat):E1:=Jm "due" 'a'
def L6:E1:=Jk (xP k) []<|Jb (Jc Jr 'b'<|Jm "late" 'a')<|Jb (Jm "gap" 'a') Je
def Jj8:S1:=Jg (Jl 1<|Vx (Jb (Jv (Jq 'a') 1 [] (aF 0) J2<|Dy k) Je) '0')<|Jj<|aR (aP cW)<|Jb (Jv (Jq 'a') 1 [1] (aF 0) J2<|L6 k) Je
theorem Jm2:C8 (k+1) [x0] h=(Jj8 k [M x0,Z] h).fin:=02
def Jih:S1:=Jg (JL "works" 'a'<|Jk (C7 k) []<|Jb 'b' Je)<|Jg (aU (Ji aM<|Jc fg (aR (aP aT)<|Jb (Jm "works" 'a') Je)<|eC<|.int 12) (Vp "TooMany"<|Jb (eC<|.str "a duty has at most twelve works") Je) Jp)<|aU (Ji aM<|Jc fg (Jk (C8 k) []<|Jb (Jm "works" 'a') Je)<|eC<|.int 80) (Vp "TooMany"<|Jb (eC<|.str "the crowd of a duty is at most 80") Je) Jp
theorem Jla:x8 (k+1) [x0,x1] h=(Jih k [M x0,M x1] h).fin:=02
def Jii(k:Nat):S1:=Jj<|aR (aP aT)<|Jb (Jm "works" 'a') Je
theorem Jlb:C9 (k+1) [x0] h=(Jii k [M x0] h).fin:=02
def Jij(k:Nat):S1:=Jj<|Jc Jh (Jm "works" 'a') 'b'
theorem Jlc:Dc (k+1) [x0,x1] h=(Jij k [M x0,M x1] h).fin:=02
def Jfn(k:Nat):S1:=Jg (aU (Ji aM<|Jc jD 'b'<|aR (aP aT)<|Jb 'a' Je) (Jj<|Jc Jh 'a' 'b') Jp)<|Jj '0'
theorem Jhe:V9 (k+1) [x0,x1] h=(Jfn k [M x0,M x1] h).fin:=02
def Jg3:S1:=Jg (Jl 2<|J0 Je)<|Jg (aU (Ji aM<|Jc oz 'a'<|Jc JK (eC<|.int 10)<|eC<|.int 30) (Jg (Jl 3<|Jc JV 'a'<|Jc JK (eC<|.int 10)<|eC<|.int 30)<|Jg (bP (dM Qh<|Jb 'b' Je) (aF 4)<|Jg (JH<|Ju (pg k) "append" 1 'c'<|Jb (Jc J9 'd'<|Jc JK (eC<|.int 10)<|eC<|.int 45) Je)<|Jl 3<|Jc JG 'd'<|Jc JK (eC<|.int 10)<|eC<|.int 45)<|Jj 'c') Jp)<|Jg (Jl 5<|Jc Jr (Jc J9 'a'<|Jc Jr (Jc JK (eC<|.int 10)<|eC<|.int 18) '9')<|eC<|.int 48271)<|Jg (bP (dM Qh<|Jb (Jc Jr 'b' '2') Je) (aF 4)<|Jg (Jl 5<|Jc J9 (Jc Jr (Jc Jr (Jc Qc 'f' 'f')<|Jc Qc (eC<|.int 48271) 'f') 'e')<|Jc Jr (Jc JK (eC<|.int 10)<|eC<|.int 18) '9')<|JH<|Ju (pg k) "append" 1 'c'<|Jb 'f' Je)<|Jj<|lu l7 'c' (V4 '2') V3
theorem Jjk:Dd (k+1) [x0,x1] h=(Jg3 k [M x0,M x1,Z,Z,Z,Z] h).fin:=02
def L7(k:Nat):E1:=Jc Jh 'c'<|Jc J9 (Jc JG 'b'<|Jc Jr (eC<|.int 11)<|Jc Qc 'a' 'a')<|eC<|.int 26
def Jkc:S1:=Jg (Jl 2<|eC<|.str "abcdefghijklmnopqrstuvwxyz")<|Jg (Jl 3<|Jc Jr '1'<|Jc J9 'a' '8')<|Jg (Jl 4<|Ju (pg k) "join" 1 (eC<|.str "")<|Jb (Jv (dM Qh<|Jb 'd' Je) 1 [0,2] (aF 0) J2<|L7 k) Je)<|Jg (Jl 5<|Jc J9 (Jc JG 'a' '8') 'd')<|Jj<|Jc Jr (Jc Jr (lu pX 'e' V3<|V4 'f')<|Jc Jh 'c'<|Jc J9 (Jc Jr (Jc JG 'a'<|eC<|.int 64) 'b')<|eC<|.int 26)<|lu pX 'e' (V4<|Jc Jr 'f' '1') V3
theorem Jm6:x9 (k+1) [x0,x1] h=(Jkc k [M x0,M x1,Z,Z,Z,Z] h).fin:=02
def L8(k:Nat):E1:=Jc J9 'a' 'b'
def L9(k:Nat):S1:=Jj<|Jv (Jq<|Jc Jh 'g'<|Jc J9 (Jc Jh 'a' '6') '6') 1 [] (aF 0) (Ji aM<|Jc jD (Jc Jh 'a' '1')<|Jc Jh 'a' '2') 'a'
def Ma:S1:=Jg (Jl 6<|Jc Jr 'g'<|J0<|Jb (J0<|Jb (bO<|Jb 'e'<|Jb (Jc Jh 'd' '0')<|Jb (Jc Jh 'd' '1') Je)<|Jb (bO<|Jb 'f'<|Jb (Jc Jh 'd' '2')<|Jb (Jc Jh 'd' '3') Je) Je)<|Jb (J0<|Jb (bO<|Jb 'e'<|Jb (Jc Jh 'd' '2')<|Jb (Jc Jh 'd' '3') Je)<|Jb (bO<|Jb 'e'<|Jb (Jc Jh 'd' '0')<|Jb (Jc Jh 'd' '1') Je) Je) Je)<|L9 k
def Mb:S1:=Jg (Jl 6<|J0<|Jb (J0 Je)<|Jb (J0<|Jb (bO<|Jb 'e'<|Jb (Jc Jh 'd' '0')<|Jb (Jc Jh 'd' '3') Je) Je)<|Jb (J0<|Jb (bO<|Jb 'e'<|Jb (Jc Jh 'd' '0')<|Jb (Jc Jh 'd' '3') Je)<|Jb (bO<|Jb 'f'<|Jb (Jc Jh 'd' '1')<|Jb (Jc Jh 'd' '2') Je) Je)<|Jb (J0<|Jb (bO<|Jb 'f'<|Jb (Jc Jh 'd' '1')<|Jb (Jc Jh 'd' '2') Je)<|Jb (bO<|Jb 'e'<|Jb (Jc Jh 'd' '0')<|Jb (Jc Jh 'd' '3') Je) Je) Je)<|Ma k
def Jir:S1:=Jg (Jl 3<|aR (aP XU)<|Jb (Jv (Jq<|lu l7 'a' V3<|V4 '4') 1 [1] (aF 0) J2<|L8 k) Je)<|Jg (Jl 4<|Jc Jh 'c'<|Jc J9 (Jc Jh 'a' '4') '3')<|Jg (Jl 5<|Jc Jh 'c'<|Jc J9 (Jc Jr (Jc Jr (Jc Jh 'a' '4') '1')<|Jc J9 (Jc Jh 'a' '5') '2') '3')<|Mb k
theorem Jll:De (k+1) [x0,x1,x2] h=(Jir k [M x0,M x1,M x2,Z,Z,Z,Z] h).fin:=02
def Jit:S1:=Jg (Jl 3<|Jk (Dd k) []<|Jb 'a'<|Jb (eC<|.int 15) Je)<|Jg (Jl 4<|Jc Jr (Jc Qc 'b'<|Jc Jr '1'<|Jc J9 (Jc Jh 'd' '0') '7')<|Jc J9 (Jc Jh 'd' '1')<|Jc Jr '1'<|Jc JG 'b' '2')<|Jg (Jl 5<|Jc JV 'e'<|Jc Jh (J0<|Jb '0'<|Jb (Jc J9 (Jc Jh 'd' '2') 'e') Je)<|Jc J9 (Jc Jh 'd' '3') '2')<|Jg (Jl 6<|Jc Jh (J0<|Jb '0'<|Jb '0'<|Jb (Jc J9 (Jc Jh 'd' '4')<|Jc Jr '1'<|Jc JG 'e' '3')<|Jb (Jc J9 (Jc Jh 'd' '4')<|Jc Jr '1'<|Jc JG (Jc Qc '3' 'e') '2') Je)<|Jc J9 (Jc Jh 'd' '5') '4')<|Jg (Jl 7<|Jc Jr '1'<|Jc J9 (Jc Jh 'd' '6')<|aR (l8 jG)<|Jb '1'<|Jb (Jc JG 'e'<|Jc Jh (J0<|Jb '1'<|Jb '2'<|Jb '4'<|Jb '9' Je)<|Jc J9 (Jc Jh 'd' '7') '4') Je)<|Jg (Jl 8<|J0 Je)<|Jg (aU (Ji aM<|Jc eL 'c'<|J0 Je) (Jl 8<|Jk (De k) []<|Jb (lu l7 'd' (V4 '8') V3)<|Jb 'h'<|Jb 'c' Je) Jp)<|Jj<|bO<|Jb 'e'<|Jb 'h'<|Jb 'f'<|Jb 'g'<|Jb 'i' Je
theorem Jln:Df (k+1) [x0,x1,x2] h=(Jit k [M x0,M x1,M x2,Z,Z,Z,Z,Z,Z] h).fin:=02
def Mc:E1:=Jk (x9 k) []<|Jb (Jc JG 'b' '5')<|Jb 'a' Je
def Md:S1:=Jg (Jl 6<|J0 Je)<|Jg (bP (dM Qh<|Jb (Jc J9 'e' '6') Je) (aF 7)<|Jg (Jl 8<|Jk (Df k) []<|Jb (Jc Jr (Jk (V9 k) []<|Jb 'a'<|Jb (Jc Jr '2' 'h') Je)<|Jc Qc '7' 'h')<|Jb 'd'<|Jb 'f' Je)<|JH<|Ju (pg k) "append" 1 'g'<|Jb (Jc Jr (bO<|Jb (Jk (x9 k) []<|Jb (Jc JG 'e' '7')<|Jb 'h' Je) Je) 'i') Je)<|Jj 'g'
def Jkb:S1:=Jg (Jl 2<|Jk (V9 k) []<|Jb 'a'<|Jb '0' Je)<|Jg (Jl 3<|Jc Jr '1'<|Jc J9 (Jc JG 'c' '4')<|Jc Jh (J0<|Jb '4'<|Jb (Jc JK (eC<|.int 10)<|eC<|.int 15)<|Jb (Jc JK (eC<|.int 10)<|eC<|.int 15)<|Jb (Jc JK (eC<|.int 10)<|eC<|.int 40) Je)<|Jc J9 'c' '4')<|Jg (Jl 4<|Jk (V9 k) []<|Jb 'a'<|Jb '1' Je)<|Jg (Jl 5<|J0 Je)<|Jg (aU (Ji bJ 'b') (Jl 5<|Jv (dM Qh<|Jb '3' Je) 1 [4] (aF 0) J2<|Mc k) Jp)<|Md k
theorem Jm5:Dg (k+1) [x0,x1] h=(Jkb k [M x0,M x1,Z,Z,Z,Z,Z,Z,Z] h).fin:=02
def Jiv(k:Nat):S1:=Jj<|c9 (cw wQ 'a') (lg (YB bJ)<|cw wR 'a') bJ
theorem Jlp:Yk (k+1) [x0] h=(Jiv k [M x0] h).fin:=02
def Me:E1:=Jk (Yk k) []<|Jb 'a' Je
def Jiu:S1:=Jg (aU (cE (J7<|Ji bJ<|cw Xx 'a')<|Ji aM<|Jc eL (aR (aP aT)<|Jb 'a' Je) '4') (Jj<|eC<|.bl Zm) Jp)<|Jg (aU (J7<|Ji bJ<|aR (aP allI)<|Jb (Jv (Jq 'a') 1 [] (aF 0) J2<|Me k) Je) (Jj<|eC<|.bl Zm) Jp)<|Jg (ei 'a'<|iF 4<|gC (aF 2)<|gC (aF 3)<|gC (aF 4)<|gC (aF 5) gN)<|Jg (aU (cE (J7<|Ji aM<|JO dr jD '0' 'c'<|aR (aP aT)<|Jb 'b' Je)<|Ji aM<|Jc jD 'd' '0') (Jj<|eC<|.bl Zm) Jp)<|Jj<|c9 (JO dr dr '0' 'e'<|Jc Jh (Jc Jh 'b' 'c') '4') (JO dr dr '1' 'f'<|Jc Jh (Jc Jh 'b' 'c') '2') bJ
theorem Jlo:Dh (k+1) [x0,x1] h=(Jiu k [M x0,M x1,Z,Z,Z,Z] h).fin:=02
def Jis:S1:=Jg (aU (J7<|Ji bJ<|cw VC 'a') (Jj<|eC<|.bl Zm) Jp)<|Jg (Jl 2 X6)<|Jg (bP (Jq 'a') (aF 3)<|Jg (aU (J7<|Ji bJ<|Jk (Dh k) []<|Jb 'd'<|Jb 'b' Je) (Jj<|eC<|.bl Zm) Jp)<|Jg (aU (Qs (Ji aM<|Jc hJ (Jc Jh 'd' '0') 'c')<|Ji aM<|Jc jD (Jc Jh 'd' '1')<|Jc Jr (Jc VO 'c'<|Jc Jh 'd' '0')<|Jc Jh (Jc Jh 'b'<|Jc Jh 'd' '0') '1') (Jj<|eC<|.bl Zm) Jp)<|ei (Jc Jh 'd' '1')<|hU 'c'<|Jc Jh 'd' '0')<|Jj<|eC<|.bl Zl
theorem Jlm:ya (k+1) [x0,x1] h=(Jis k [M x0,M x1,Z,Z] h).fin:=02
def Jmp(k:Nat):S1:=Jg (Jl 2 '0')<|Jg (bP (Jq 'a') (iF 3<|gC (aF 3)<|gC (aF 4)<|gC (aF 5) gN)<|aU (Ji aM<|Jc eA 'd' 'b') (Jl 2 'f') Jp)<|Jj 'c'
theorem Jp0:Di (k+1) [x0,x1] h=(Jmp k [M x0,M x1,Z,Z,Z,Z] h).fin:=02
def Jg0(k:Nat):S1:=Jg (Jl 2 '0')<|Jg (bP (Jq 'a') (iF 6<|gC (aF 3)<|gC (aF 4)<|gC (aF 5)<|gC (aF 6)<|gC (aF 7)<|gC (aF 8) gN)<|aU (Ji aM<|Jc oz (Jc JV (Jc Jr 'b' 'h') 'g') '0') (i8 .Add 2<|Jc Qc (Jc Jr (Jc JG (Jc JV (Jc Jr 'b' 'h') 'g') 'e') '1') 'f') Jp)<|Jj 'c'
theorem Jjh:Dj (k+1) [x0,x1] h=(Jg0 k [M x0,M x1,Z,Z,Z,Z,Z,Z,Z] h).fin:=02
def Jfo(k:Nat):S1:=Jj<|Jc JG (Jc JV (Jc Jr (Jc Jr 'b'<|Jc Jh 'a' '4')<|Jc Jh 'a' '1') '1')<|Jc Jh 'a' '1'
theorem Jhf:yb (k+1) [x0,x1] h=(Jfo k [M x0,M x1] h).fin:=02
def Jiq:S1:=Jj<|aR (aP cW)<|Jb (Jv (Jq 'a') 1 [1] (aF 0) J2<|Jc Qc (Jk (yb k) []<|Jb 'a'<|Jb 'b' Je)<|Jc Jh 'a' '2') Je
theorem Jlk:Yj (k+1) [x0,x1] h=(Jiq k [M x0,M x1] h).fin:=02
def Mf(k:Nat):E1:=Jc Jh 'a' '3'
def Mh:E1:=Jk (yb k) []<|Jb 'a'<|Jb 'b' Je
def Jka:S1:=Jg (Jl 1<|Vx (Jb (Jv (Jq 'a') 1 [] (aF 0) J2<|Mf k) Je) '1')<|Jg (V5 (Ji bJ<|eC<|.bl Zl)<|Jg (Jl 2<|Jk (Yj k) []<|Jb 'a'<|Jb 'b' Je)<|Jg (aU (cE (Ji aM<|Jc dr 'c' 'b')<|Ji aM<|Jc fg (aR (aP cW)<|Jb (Jv (Jq 'a') 1 [2] (aF 0) J2<|Mh k) Je)<|eC<|.int 200) YE Jp)<|Jl 1 'c')<|Jj 'b'
theorem Jm4:Dl (k+1) [x0] h=(Jka k [M x0,Z,Z] h).fin:=02
def Jc3:S1:=Jg (bP (Jq 'a') (aF 2)<|Jg (Jl 3<|Jc JV (Jc Jh 'c' '3')<|Jc Jh 'c' '4')<|V5 (Ji aM<|Jc dr 'd' 'b')<|Jg (aU (Ji aM<|Jc fg (Jk (Dj k) []<|Jb 'a'<|Jb 'd' Je) 'd') (Jj<|eC<|.bl Zl) Jp)<|i8 .Add 3<|Jc Jh 'c' '1')<|Jj<|eC<|.bl Zm
theorem Jd0:yc (k+1) [x0,x1] h=(Jc3 k [M x0,M x1,Z,Z] h).fin:=02
def Dz(k:Nat):E1:=Ja 0
def ye(k:Nat):T1:=Ji aM<|Jc eL (Jc Jh 'a' '5')<|J0 Je
def Jmo:S1:=Jg (aU (Ji aM<|Jc eL (Jv (Jq 'a') 1 [] (aF 0) (ye k)<|Dz k)<|J0 Je) (Jj<|eC<|.str "holds") Jp)<|Jg (Jl 1<|Jk (Dl k) []<|Jb 'a' Je)<|Jg (aU (Ji bJ<|Jk (yc k) []<|Jb 'a'<|Jb 'b' Je) (Jj<|eC<|.str "broken") Jp)<|Jg (aU (Ji aM<|Jc dr (Jk (Yj k) []<|Jb 'a'<|Jb 'b' Je) 'b') (Jj 'b') Jp)<|Jj<|eC<|.str "many"
theorem Jpz:Dm (k+1) [x0] h=(Jmo k [M x0,Z] h).fin:=02
def Jg1:S1:=Jg (Jl 1<|eC .aw)<|Jg (Jl 2<|eC<|.str "told")<|Jg (kE (Jl 1<|Jk (C6 k) []<|Jb 'a' Je) [(Cr,Z,(Jl 2<|eC<|.str "holds")),(LD,Z,(Jl 2<|eC<|.str "many"))])<|Jj<|bO<|Jb 'c'<|Jb 'b' Je
theorem Jji:Dn (k+1) [x0] h=(Jg1 k [M x0,Z,Z] h).fin:=02
def Jg2:S1:=Jg (bP (Jq 'a') (iF 4<|gC (aF 3)<|gC (aF 4)<|gC (aF 5)<|gC (aF 6) gN)<|Jg (Jl 7<|Jc Jr 'e' 'f')<|Jg (Jl 8<|J0 Je)<|Jg (bP (Jq 'a') (aF 9)<|aU (Qs (Ji aM<|Jc oz (Jc Jr (Jc Jh 'j' '1')<|Jc Jh 'j' '2') 'h')<|Ji aM<|Jc dr (Jc Jr (Jc Jh 'j' '1')<|Jc Jh (Jc Jh 'b'<|Jc Jh 'j' '0') '3') 'c') (JH<|Ju (pg k) "append" 1 'i'<|Jb (Jc Jh 'j' '3') Je) Jp)<|aU (Qs (Ji aM<|Jc eL 'i'<|J0 Je)<|Ji aM<|Jc fg (aR (aP cW)<|Jb 'i' Je)<|Jc JV 'c' 'h') (Jj<|eC<|.bl Zl) Jp)<|Jj<|eC<|.bl Zm
theorem Jjj:Dp (k+1) [x0,x1,x2] h=(Jg2 k [M x0,M x1,M x2,Z,Z,Z,Z,Z,Z,Z] h).fin:=02
def Jgz:S1:=Jg (Jl 3<|Jm "row" 'a')<|Jg (Jl 4<|Jm "place" 'a')<|Jg (aU (cE (J7<|Ji bJ<|Jk (ya k) []<|Jb 'd'<|Jb 'b' Je)<|J7<|Ji bJ<|Jk (Dw k) []<|Jb 'd'<|Jb 'b' Je) (Jj<|eC<|.bl Zm) Jp)<|Jg (aU (cE (J7<|Ji bJ<|Jk (ya k) []<|Jb 'd'<|Jb 'b' Je)<|cE (Ji aM<|Jc fg (aR (aP aT)<|Jb 'd' Je)<|eC<|.int 200)<|cE (J7<|Ji bJ<|Jk (Yk k) []<|Jb 'e' Je)<|J7<|Ji bJ<|Jk (Yk k) []<|Jb (Jm "turn" 'a') Je) (Jj<|eC<|.bl Zm) Jp)<|Jg (aU (cE (J7<|Ji aM<|JO dr jD '0' 'e'<|aR (aP aT)<|Jb 'd' Je)<|Ji aM<|Jc eL (Jm "turn" 'a')<|Jc Jr (Jc Jh (Jc Jh 'd' 'e') '1')<|Jc Jh (Jc Jh 'b'<|Jc Jh (Jc Jh 'd' 'e') '0') '3') (Jj<|eC<|.bl Zm) Jp)<|Jg (aU (Ji aM<|Jc dr (Jk (Di k) []<|Jb (Jk (xU k) []<|Jb (Qx "ByDue" (Yg k) []<|Jb 'c' Je)<|Jb (aR (aP Vl)<|Jb 'd' Je) Je)<|Jb 'e' Je)<|Jm "turn" 'a') (Jj<|eC<|.bl Zm) Jp)<|Jj<|Jk (Dp k) []<|Jb 'd'<|Jb 'b'<|Jb (Jm "turn" 'a') Je
theorem Jjg:Ds (k+1) [x0,x1,x2] h=(Jgz k [M x0,M x1,M x2,Z,Z] h).fin:=02
def Jdh:S1:=Jg (Jl 2<|J0 Je)<|Jg (bP (dM Qh<|Jb (aR (aP aT)<|Jb 'a' Je) Je) (aF 3)<|Jg (ei (Jc Jh 'a' 'd')<|iF 6<|gC (aF 4)<|gC (aF 5)<|gC (aF 6)<|gC (aF 7)<|gC (aF 8)<|gC (aF 9) gN)<|Jg (Jl 10<|Jc Jh (J0<|Jb '0'<|Jb '1'<|Jb (lg Vo '1')<|Jb '2'<|Jb (Jc JV '0'<|Jc JG 'f'<|eC<|.int 64) Je)<|Jc J9 (Jc JG 'b'<|Jc Jr (Jc Qc '5' 'd') '1') '5')<|JH<|Ju (pg k) "append" 1 'c'<|Jb (bO<|Jb 'e'<|Jb 'f'<|Jb (aR (l8 jG)<|Jb '1'<|Jb (Jc Jr (Jc JG 'f'<|aR (aP aT)<|Jb 'a' Je) 'k') Je)<|Jb 'f'<|Jb '0'<|Jb (J0 Je) Je) Je)<|Jj 'c'
theorem Jee:Dv (k+1) [x0,x1] h=(Jdh k [M x0,M x1,Z,Z,Z,Z,Z,Z,Z,Z,Z] h).fin:=02
def Jd9(k:Nat):S1:=Jg (Jl 2 '1')<|Jg (bP (Jq 'b') (iF 6<|gC (aF 3)<|gC (aF 4)<|gC (aF 5)<|gC (aF 6)<|gC (aF 7)<|gC (aF 8) gN)<|Jl 2<|aR Y7<|Jb 'c'<|Jb 'e'<|Jb 'f'<|Jb 'h' Je)<|Jg (bP (Jq 'a') (aF 9)<|aU (Ji aM<|Jc fg (aR (aP aT)<|Jb (aR (aP hi)<|Jb (aR (aP XE)<|Jb 'j' Je) Je) Je)<|Jc Jr (aR (aP aT)<|Jb (aR (aP hi)<|Jb 'c' Je) Je) '6') (Jj<|eC<|.bl Zm) Jp)<|Jj<|eC<|.bl Zl
theorem Je1:Dw (k+1) [x0,x1] h=(Jd9 k [M x0,M x1,Z,Z,Z,Z,Z,Z,Z,Z] h).fin:=02
def yf:E1:=Qx "Work" (xT k) []<|Jb (Jc Jh 'a' '0')<|Jb (Jc Jh 'a' '1')<|Jb (Jc Jh 'a' '2')<|Jb (Jc Jh 'a' '3')<|Jb (Jc Jh 'a' '4')<|Jb (aR (aP Vl)<|Jb (Jc Jh 'a' '5') Je) Je
def Mi:S1:=Jg (Jl 2<|Qx "Duty" (x8 k) []<|Jb (Jv (Jq 'b') 1 [] (aF 0) J2<|yf k) Je)<|Jg (Jl 3<|Jk (Dm k) []<|Jb 'b' Je)<|Jg (ei (Jk (Dn k) []<|Jb 'c' Je)<|iF 2<|gC (aF 4)<|gC (aF 5) gN)<|Jg (aU (cE (Ji aM<|Jc eL 'e'<|eC<|.str "told")<|cE (Ji aM<|Jc eA 'd'<|eC<|.str "holds")<|Ji aM<|Jc eA 'd'<|eC<|.str "many") (Jj<|Jc eA 'e' 'd') Jp)<|Jg (aU (Ji aM<|Jc eA 'd'<|eC<|.str "broken") (Jj<|c9 (cw (Xw ["Broken"]) 'f') (c9 (Jc qO (Ju (pg k) "kept" 0 'f' Je)<|eC<|.bl Zm) (Jk (Ds k) []<|Jb 'f'<|Jb 'b'<|Jb 'c' Je) bJ) bJ) Jp)<|Jj<|c9 (cw (Xw ["Kept"]) 'f') (c9 (Jc qO (Ju (pg k) "kept" 0 'f' Je)<|eC<|.bl Zl) (Jc eA (Jm "lines" 'f')<|J0<|Jb 'd' Je) bJ) bJ
def Jy4:S1:=Jg (Jl 1<|Jk (Dg k) []<|Jb 'a'<|Jb (Jc eA (Jc J9 (Jk (V9 k) []<|Jb 'a'<|Jb '7' Je) '8') '3') Je)<|Jg (aU (Ji aM<|Jc eA (Jc J9 (Jc JG (Jk (V9 k) []<|Jb 'a'<|Jb '7' Je) '8') '3') '1') (Jl 1<|Jk (Dv k) []<|Jb 'b'<|Jb (Jc JG (Jk (V9 k) []<|Jb 'a'<|Jb '7' Je)<|eC<|.int 24) Je) Jp)<|Mi k
theorem J3c:Yi (k+1) [x0] h=(Jy4 k [M x0,Z,Z,Z,Z,Z] h).fin:=02
end
theorem Mj(k:Nat):JX (pg k) "held" 0 "Work"=M (CA k,[]):=02
theorem Jc4(k:Nat):JX (pg k) "next_ready" 0 "Bench"=M (CD k,[]):=02
theorem Jgc(k:Nat):JX (pg k) "let_in" 0 "Bench"=M (CF k,[]):=02
theorem Jdv(k:Nat):JX (pg k) "turns_for" 1 "Bench"=M (CG k,[]):=02
theorem Ji7(k:Nat):JX (pg k) "tell" 2 "Bench"=M (CH k,[]):=02
theorem Jg5(k:Nat):JX (pg k) "go_on" 0 "Bench"=M (CI k,[]):=02
theorem Jey(k:Nat):JX (pg k) "rank_of" 2 "ByDue"=M (CZ k,[]):=02
theorem Jg7(k:Nat):JX (pg k) "holds" 2 "ByDue"=M (CW k,[]):=02
theorem Ji8(k:Nat):JX (pg k) "pick" 3 "ByDue"=M (xX k,[]):=02
theorem Jeb(k:Nat):JX (pg k) "standing" 2 "ByDue"=M (CY k,[]):=02
theorem Jk2(k:Nat):JX (pg k) "kept" 0 "Kept"=M (C0 k,[]):=02
theorem Jg6(k:Nat):JX (pg k) "kept" 0 "Broken"=M (C2 k,[]):=02
theorem Ml(k:Nat):JX (pg k) "size" 0 "Duty"=M (C9 k,[]):=02
theorem DA(k:Nat):JX (pg k) "work" 1 "Duty"=M (Dc k,[]):=02
end LW
section
open PySem L2 L3 L4
namespace LW
open PySem L2 L3 L4
section
variable{k:Nat}{h:IH}
theorem Jx:1000000<sizeLine:=01
theorem YG(o o'):List.set (h++[o]) h.length o'=h++[o']:=03
theorem QS(o o')(g):List.set (h++o::g) h.length o'=h++o'::g:=03
end
section
seal L4.run
section
variable{α β:Type}{U:aE}{h h1:IH}{N:aE->IH->Prop}{R P:IV->IH->Prop}
theorem xb(x:WR r λa h=>WR (f a h) Q):WR (r.bind f) Q:=(J8 ..).mpr x
theorem ae(x:WS (a U h) (λj h1=>WS (b j h1) N R) R):WS (Jg a b U h) N R:=(J57 ..).mpr x
theorem ak(x:WS r (λ_ h=>P .aw h) P):WR r.fin P:=(J5u ..).mpr x
theorem ao(x:WR (e U h) λv h1=>N (U.set i<|M v) h1):WS (Jl i e U h) N R:=(J58 ..).mpr x
theorem aj(x:WR (e U h) R):WS (Jj e U h) N R:=(J2j ..).mpr x
theorem Qg(x:WR (e U h) λ_ h1=>N U h1):WS (JH e U h) N R:=(J2h ..).mpr x
theorem nG(x:WR (t U h) λc h1=>(c=Zl->WS (a U h1) N R)/\(c=Zm->WS (b U h1) N R)):WS (aU t a b U h) N R:=(J8d ..).mpr x
theorem oW(x:WR (t U h) λc h1=>(c=Zl->WR (a U h1) P)/\(c=Zm->WR (b U h1) P)):WR (oy t a b U h) P:=(J8c ..).mpr x
theorem DB(x:WR (a U h) λc h1=>(c=Zl->WR (b U h1) Q)/\(c=Zm->Q Zm h1)):WR (Qs a b U h) Q:=(J2f ..).mpr x
theorem cX[Decidable p](x:p->a)(y:¬p->b):(decide p=Zl->a)/\(decide p=Zm->b):=05
theorem J8n(x:N U h):WS (.next U h) N R:=x
theorem ax(x:N U h):WS (Jp U h) N R:=x
theorem oX(x:WR (a U h) λxs h1=>xs.length<=sizeLine/\P (.tup xs) h1):WR (bO a U h) P:=(J54 ..).mpr x
theorem mF(x:WR (a U h) λxs h1=>xs.length<=sizeLine/\P (.ref h1.length) (h1++[.lst xs])):WR (J0 a U h) P:=(J51 ..).mpr x
theorem DC(g:h[i]?=M (.lst xs))(e:bq xs n=M x)(q:P x h):WR (Jh (.ref i) (.int n) h) P:=(J5x ..).mpr #[_,g,_,e,q]
theorem uS(e:bq xs n=M x)(q:P x h):WR (Jh (.tup xs) (.int n) h) P:=(J5z ..).mpr #[_,e,q]
theorem J8m(g:h[i]?=M (.lst xs))(q:P (.int xs.length) h):WR (aT (.ref i) h) P:=(J2a ..).mpr #[_,g,q]
theorem DD(l:0<j)(q:P (.int<|i%j) h):WR (J9 (.int i) (.int j) h) P:=(J52 ..).mpr #[l,q]
theorem J8k(l:0<j/\j.natAbs.log2<9000)(q:P (.int<|i/j) h):WR (JG (.int i) (.int j) h) P:=(J18 ..).mpr #[l,q]
theorem DE(l:QY i j)(q:P (.int<|i*j) h):WR (Qc (.int i) (.int j) h) P:=(J53 ..).mpr #[l,q]
def au(j:o U h=.ok (.ref i) h1)(g:h1[i]?=M (.ins c fs))(l:fs.lookup f=M x):Jm f o U h=.ok x h1:=by calc Js ?_;rw[J5v,j];show#[x,(Q8 g).trans l,rfl,rfl]
def aD(ea:a U h=.ok x h1)(j:b U h1=.ok y h2):Jc f a b U h=f x y h2:=by unfold Jc;rw[ea];dsimp only[Res.bind];rw[j]
def ah(ea:a U h=.ok x h1):Jb a Je U h=.ok [x] h1:=by unfold Jb;rw[ea];rfl
def ag(ea:a U h=.ok x h1)(j:b U h1=.ok y h2):Jb a (Jb b Je) U h=.ok [x,y] h2:=by unfold Jb;rw[ea];dsimp only[Res.bind];rw[j];rfl
def eN(ea:a U h=.ok xs h1):aR f a U h=f xs h1:=by unfold aR;rw[ea];rfl
def Jo(ea:a U h=.ok xs h1)(j:f (xs++d) h1=.ok v h2):Jk f d a U h=.ok v h2:=by unfold Jk;rw[ea];show j
def bh(ea:a U h=.ok (.bl c) h1):Ji aM a U h=.ok c h1:=by unfold Ji;rw[ea];rfl
def dD(ea:a U h=.ok (.ref i) h1)(g:h1[i]?=M (.lst xs)):aR (aP aT) (Jb a Je) U h=.ok (.int xs.length) h1:=by rw[eN<|ah ea];show Js<|J8m g #[rfl,rfl]
def aQ(ea:a U h=.ok (.ref i) h1)(j:b U h1=.ok (.int n) h2)(g:h2[i]?=M (.lst xs))(e:bq xs n=M x):Jc Jh a b U h=.ok x h2:=by rw[aD ea j];show Js<|DC g e #[rfl,rfl]
def aq(ea:a U h=.ok (.tup xs) h1)(j:b U h1=.ok (.int n) h2)(e:bq xs n=M x):Jc Jh a b U h=.ok x h2:=by rw[aD ea j];show Js<|uS e #[rfl,rfl]
theorem fT(ea:a U h=.ok (.int i) h1)(k:b U h1=.ok (.int j) h2):Ji aM (Jc fg a b) U h=.ok (decide (j<i)) h2:=bh<|aD ea k
theorem oY(ea:a U h=.ok (.int i) h1)(k:b U h1=.ok (.int j) h2):Ji aM (Jc dr a b) U h=.ok (decide (i<=j)) h2:=bh<|aD ea k
theorem lA(ea:a U h=.ok (.int i) h1)(k:b U h1=.ok (.int j) h2):Ji aM (Jc jD a b) U h=.ok (decide (i<j)) h2:=bh<|aD ea k
theorem sS(ea:a U h=.ok (.int i) h1)(k:b U h1=.ok (.int j) h2):Ji aM (Jc oz a b) U h=.ok (decide (j<=i)) h2:=bh<|aD ea k
theorem sT(ea:a U h=.ok (.int i) h1)(k:b U h1=.ok (.int j) h2):Ji aM (Jc eA a b) U h=.ok (decide (i=j)) h2:=bh<|aD ea k
theorem aO(ea:a U h=.ok (.int i) h1)(k:b U h1=.ok (.int j) h2):Jc Jr a b U h=.ok (.int<|i+j) h2:=aD ea k
theorem dE(ea:a U h=.ok (.int i) h1)(k:b U h1=.ok (.int j) h2):Jc JV a b U h=.ok (.int<|i-j) h2:=aD ea k
def ja(ea:a U h=.ok x h1)(j:b U h1=.ok y h2)(k:c U h2=.ok z h3):Jb a (Jb b<|Jb c Je) U h=.ok [x,y,z] h3:=by rw[show Jb a (Jb b<|Jb c Je) U h=(a U h).bind λx h1=>(Jb b (Jb c Je) U h1).bind λxs h2=>.ok (x::xs) h2 from rfl,ea];change(Jb b (Jb c Je) U h1).bind _=_;rw[ag j k];rfl
def jJ(ea:a U h=.ok x h1)(j:b U h1=.ok y h2)(m:c U h2=.ok z h3)(k:d U h3=.ok u h4):Jb a (Jb b<|Jb c<|Jb d Je) U h=.ok [x,y,z,u] h4:=by rw[show Jb a (Jb b<|Jb c<|Jb d Je) U h=(a U h).bind λx h1=>(Jb b (Jb c<|Jb d Je) U h1).bind λxs h2=>.ok (x::xs) h2 from rfl,ea];change(Jb b (Jb c<|Jb d Je) U h1).bind _=_;rw[ja j m k];rfl
theorem bT(ea:a U h=.ok (.int i) h1)(k:b U h1=.ok (.int j) h2)(l:0<j):Jc J9 a b U h=.ok (.int<|i%j) h2:=(aD ea k).trans<|Js<|DD l #[rfl,rfl]
theorem JY(ea:a U h=.ok (.int i) h1)(k:b U h1=.ok (.int j) h2)(l:0<j)(z:j.natAbs.log2<9000):Jc JG a b U h=.ok (.int<|i/j) h2:=(aD ea k).trans<|Js<|J8k #[l,z] #[rfl,rfl]
theorem eE(ea:a U h=.ok (.int i) h1)(k:b U h1=.ok (.int j) h2)(l:QY i j):Jc Qc a b U h=.ok (.int<|i*j) h2:=(aD ea k).trans<|Js<|DE l #[rfl,rfl]
theorem cu(ea:a U h=.ok xs h1)(l:Nat.ble xs.length 1000=Zl):J0 a U h=.ok (.ref h1.length) (h1++[.lst xs]):=Js<|mF<|Jf ea #[Zb (EK l)<|Zb 01<|Zo Jx,rfl,rfl]
theorem fF(ea:a U h=.ok xs h1)(l:Nat.ble xs.length 1000=Zl):bO a U h=.ok (.tup xs) h1:=Js<|oX<|Jf ea #[Zb (EK l)<|Zb 01<|Zo Jx,rfl,rfl]
theorem uT(ea:a U h=.ok xs h1)(l:Nat.ble xs.length 1000=Zl)(j:b U (h1++[.lst xs])=.ok (.int n) (h1++[.lst xs]))(e:bq xs n=M x):Jc Jh (J0 a) b U h=.ok x (h1++[.lst xs]):=aQ (cu ea l) j grown e
theorem oZ(ea:a U h=.ok (.int i) h1)(k:b U h1=.ok (.int j) h2):aR (l8 jG) (Jb a<|Jb b Je) U h=.ok (.int (if j>i then j else i)) h2:=eN<|ag ea k
theorem DF(ea:a U h=.ok (.int i) h1)(k:b U h1=.ok (.int j) h2):aR (l8 oG) (Jb a<|Jb b Je) U h=.ok (.int (if j<i then j else i)) h2:=eN<|ag ea k
def f9{Pg:Pg}(e:o U h=.ok (.ref i) h1)(D:h1[i]?=M (.ins c fs))(j:fs.lookup m=Z)(hd:JX Pg m n c=M (f,d))(ha:a U h1=.ok xs h2)(hx:f (.ref i::(xs++d)) h2=.ok v h3):Ju Pg m n o a U h=.ok v h3:=by calc Js<|(II e D j hd).mpr<|Jf ha<|Jf hx #[rfl,rfl]
theorem mG[Decidable p](e:t U h=.ok (decide p) h1)(x:p->WS (a U h1) N R)(y:¬p->WS (b U h1) N R):WS (aU t a b U h) N R:=nG<|Jf e<|cX x y
theorem aI(e:t U h=.ok Zm h1)(x:WS (b U h1) N R):WS (aU t a b U h) N R:=nG (Jf e #[(λz=>by cases z),λ_=>x])
theorem fG(e:t U h=.ok Zl h1)(x:WS (a U h1) N R):WS (aU t a b U h) N R:=nG (Jf e #[λ_=>x,λz=>by cases z])
def d4(e:r=.next W1 h1)(x:N W1 h1):WS r N R:=by rw[e];show x
theorem dO(x:WR (it U h) λbB h1=>WS (Qr bB.bK g b bB.xs U h1) N R):WS (bP it g b U h) N R:=(IB ..).mpr x
theorem cH{r:Res α}{c d:α}(e:r=.ok c h)(q:c=d):r=.ok d h:=q▸e
theorem fH(ea:a U h=.ok v h1)(t:(g9 v h1).bind ans=M b):cw ans a U h=.ok (.bl b) h1:=Js<|(J5w ..).mpr<|Jf ea #[b,t,rfl,rfl]
def bU(e:a U h=.ok c h1):J7 a U h=.ok (!c) h1:=by unfold J7;rw[e];rfl
def bH(e:a U h=.ok (.bl c) h1):Ji bJ a U h=.ok c h1:=by unfold Ji;rw[e];rfl
def iG(e:a U h=.ok Zm h1)(j:b U h1=r):cE a b U h=r:=by unfold cE;rw[e];show j
def mH(e:a U h=.ok Zl h1)(j:b U h1=r):Qs a b U h=r:=by unfold Qs;rw[e];show j
def o3(e:a U h=.ok Zm h1):Qs a b U h=.ok Zm h1:=by unfold Qs;rw[e];rfl
def Vy(e:a U h=.ok (.bl Zl) h1)(j:b U h1=r):c9 a b bJ U h=r:=by unfold c9;rw[e];show j
theorem DG(ea:a U h=.ok (.int i) h1)(k:b U h1=.ok (.int j) h2)(l:i<j):Jc jD a b U h=.ok (.bl Zl) h2:=(aD ea k).trans (by change Res.ok (IV.bl<|decide (i<j)) h2=_;rw[decide_eq_true l])
def DH(ea:a U h=.ok (.int i) h1)(k:b U h1=.ok (.int j) h2)(m:c U h2=.ok (.int l) h3)(t1:i<=j)(t2:j<l):JO dr jD a b c U h=.ok (.bl Zl) h3:=by unfold JO;rw[ea];dsimp only[Res.bind];rw[k];change(match IV.bl (decide (i<=j))with|.bl Zl=>_|.bl Zm=>_|_=>_)=_;rw[decide_eq_true t1];rw[m];change Res.ok (IV.bl<|decide (j<l)) h3=_;rw[decide_eq_true t2]
def mI{n:Nat}(j:e U h=.ok (.int (n:Int)) h1)(l:n<1000000)(x:WS (Qr (λ_=>True) g b (aZ 0 (n:Int)) U h1) N R):WS (bP (dM Qh<|Jb e Je) g b U h) N R:=by rw[IB,Vs];calc Jf (ah j) ?_;rw[Ye];show#[05,x]
def DI(ea:a U h=.ok (.ref i) h1)(g:h1[i]?=M (.lst xs)):aR (aP Vl) (Jb a Je) U h=.ok (.ref h1.length) (h1++[.lst xs]):=by rw[eN<|ah ea];show Js<|(Jxj ..).mpr #[_,g,rfl,rfl]
def Qu(ev:e U h=.ok v h1)(j:o U h1=.ok (.ref i) h1)(g:h1[i]?=M (.ins c fs))(l:fs.length<1000)(q:N U<|h1.set i<|.ins c<|bG f v fs):WS (JL f o e U h) N R:=by rw[YS];show Jf ev<|Jf j #[i,c,fs,rfl,g,l,q]
def J8i(k:o U h=.ok (.ref i) h1)(g:h1[i]?=M (.ins c fs))(l:fs.lookup f=M (.int a))(j:e U h1=.ok (.int b) h2)(g2:h2[i]?=M (.ins c gs))(z:gs.length<1000)(q:N U<|h2.set i<|.ins c<|bG f (.int<|a+b) gs):WS (XR .Add f o e U h) N R:=by unfold XR;rw[k];simp![rS,g,l,j,L4.nF,g2,z];show q
def J8j(C:o U h=.ok (.ref i) h1)(ek:k U h1=.ok (.int n) h2)(g:h2[i]?=M (.lst xs))(ea:bq xs n=M (.int a))(n0:0<=n)(D:e U h2=.ok (.int b) h3)(m:h3[i]?=M (.lst ys))(B:ki ys.length n=M j)(q:N U<|h3.set i<|.lst<|ys.set j<|.int<|a+b):WS (XS .Add o k e U h) N R:=by unfold XS;rw[C];simp![rS,ek,xn,g,ea,n0,if_true,D,L4.nF,oF,m,B];show q
theorem Xd{Pg:Pg}(e:o U h=.ok (.ref i) h1)(D:h1[i]?=M (.ins c fs))(j:fs.lookup m=Z)(hd:JX Pg m n c=M (f,d))(x:WR (a U h1) λO h2=>WR (f (.ref i::(O++d)) h2) P):WR (Ju Pg m n o a U h) P:=(II e D j hd).mpr x
theorem QD{Pg:Pg}(e:o U h=.ok (.ref i) h1)(hl:h1[i]?=M (.lst xs))(j:dN "list" m n=M g)(x:WR (a U h1) λO h2=>WR (g (.ref i) O h2) P):WR (Ju Pg m n o a U h) P:=(J16 e hl j).mpr x
theorem jc(g:h[i]?=M (.lst xs))(l:xs.length<sizeLine)(q:P .aw<|h.set i<|.lst<|xs++[y]):WR (Xg (.ref i) [y] h) P:=(Jul ..).mpr #[_,g,l,q]
def uU(g:h[i]?=M (.lst xs))(l:xs[xs.length-1]?=M y)(q:P y<|h.set i<|.lst xs.dropLast):WR (XM (.ref i) [] h) P:=by
 have e:VL (.ref i) h=M (i,xs):=by unfold VL;simp![g]
 unfold XM;rw[e];dsimp only;rw[l];show q
def DJ{ns:To}(g:h[i]?=M (.lst<|ns.map .int))(l:ns.findIdx? (· ==k)=M j)(q:P .aw<|h.set i<|.lst<|(ns.map IV.int).eraseIdx j):WR (XO (.ref i) [.int k] h) P:=by
 have e:VL (.ref i) h=M (i,ns.map .int):=by unfold VL;simp![g]
 unfold XO;rw[e];dsimp only;rw[Qz];dsimp only;rw[l];show q
theorem Mn:dN "list" "pop" 0=M XM:=02
theorem Jq6:dN "list" "remove" 1=M XO:=02
end
end
section
variable{k:Nat}{h:IH}
theorem yg(ns:To)(n:Int)(hn:0<=n):V9 (k+1) [.cJ<|ns.map .int,.int n] h=.ok (.int<|ns.getD n.toNat 0) h:=Js (by
 rw[Jhe];refine ak<|ae<|mG (lA rfl ((eN<|ah rfl).trans rfl)) (λq=>?_) λq=>ax<|aj<|Jf rfl #[?_,rfl]
 .rw[Zn]at q;have l:n.toNat<ns.length:=(Int.toNat_lt hn).mpr q;show aj (Jf ((aD rfl rfl).trans<|Js<|(J5y ..).mpr #[.int ns[n.toNat],B5 hn 03,rfl,rfl]) #[by rw[Z0,Zh l];rfl,rfl])
 .rw[Zn]at q;rw[Z0,tJ 05];rfl)
end
section
seal L4.run L4.WS
section
variable{k:Nat}{h:IH}
def chV{q:Int->Int->Bool}(m:∀x y h,f (.int x) (.int y) h=.ok (.bl<|q x y) h)(ea:a U h=.ok (.int i) h)(k:b U h=.ok (.int j) h)(B:c U h=.ok (.int l) h):JO dr f a b c U h=.ok (.bl<|decide (i<=j)&&q j l) h:=by unfold JO;rw[ea];dsimp only[Res.bind];rw[k];change(match IV.bl (decide (i<=j))with|.bl Zl=>_|.bl Zm=>_|_=>_)=_;cases decide (i<=j)with|false=>rfl|true=>rw[B];show m _ _ _
def Mo(i):xO (k+1) [.int i] h=.ok (.bl Zl) h:=by rw[Jm3];rfl
def yh(i j):Vu (k+2) [.int i,.int j] h=.ok (.bl<|decide (j<=i)) h:=by show Js<|by rw[Je0];show ak<|aj<|Jf (Vy (Jo (ah rfl)<|Mo i)<|(aD rfl rfl).trans rfl) #[rfl,rfl]
def cD(x:Str):Prop:=1<=x.length/\x.length<=8/\∀c∈x.cps.toList,97<=c/\c<=122
def J6e:(iE "a").cps.toList=[97]:=by decide +kernel
def J8o:(iE "z").cps.toList=[122]:=by decide +kernel
def J1j(j:97<=c/\c<=122):yd k [M<|.str ⟨#[c]⟩] h=.ok (.bl Zl) h:=by
 calc Js ?_;have m:¬([c]<[97]):=λq=>by cases q with|rel q=>show kQ (Zc j.1 1) q|cons q=>cases q
 have B:¬([122]<[c]):=λq=>by cases q with|rel q=>show kQ (Zc j.2 1) q|cons q=>cases q
 simp![yd,Jxg,V8,SW,Yd,J50,J6e,J8o,m,B,decide_false,Bool.not_false,false_implies,true_and,Bool.true_eq_false,IV.bl.injEq,exists_eq_left',implies_true]
def Mp(hx:cD x):WR (xR (k+1) [.str x] h) λv h'=>v=.bl Zl/\Ex h h':=by let#[H,j,D]:=hx;have m:=Jx;have C:x.length<=sizeLine:=Zb (Zd _ 999993)<|Zb (Zc j 999993) m;have I:(1:Int)<=x.length:=tW.mpr 06;have F:(x.length:Int)<=8:=tW.mpr 06;have el:aP aT [IV.str x] h=.ok (.int x.length) h:=Js<|(IC x).mpr #[C,rfl,rfl];rw[Jpy];calc ak<|ae<|aI (iG (bU<|bH<|fH (b:=Zl) rfl rfl)<|cH (bU<|bh<|chV (λ_ _ _=>rfl) rfl ((eN<|ah rfl).trans el) rfl) 05)<|ax<|aj ?_;let#[_,_,E,rfl,g,rfl]:=(Qt (it:=Jq 'a') (e:=yd k) (js:=[]) (U:=[M<|.str x]) (f:=λ_=>.bl Zl) #[rfl,rfl,rfl] (by rw[show(VU x).length=x.length by simp[VU,tZ]];show Zb (Zd _ 999992)<|Zb (Zc (Zc j 1) 999992) m) (λ_ _=>trivial) (by intro v hv j _;let#[c,B,rfl]:=ZS.mp hv;show Jf (J1j<|D c B) #[rfl,.refl _])).eq;show Jf ((eN<|ah E).trans<|all_map Jz) #[by rw[pN.mpr λ_ _=>rfl],.cons ..]
abbrev Hd:=Str×Int×Int
abbrev _root_.Tx:=List Hd
noncomputable def az (a:Hd):IV:=.tup [.str a.1,.int a.2.1,.int a.2.2]
def oK(len:Int)(a:Hd):Prop:=cD a.1/\0<=a.2.1/\a.2.1<a.2.2/\a.2.2<len
def yi(a b:Hd):Prop:=a.2.2<=b.2.1\/b.2.2<=a.2.1\/(a.1≠b.1/\((b.2.1<=a.2.1/\a.2.2<=b.2.2)\/(a.2.1<=b.2.1/\b.2.2<=a.2.2)))
def Jp6(ha:oK len a):WR (Cv (k+3) [az a,.int len] h) λv h'=>v=.bl Zl/\Ex h h':=by let#[j,C,m,B]:=ha;let#[_,h',e,rfl,x]:=(Mp j).eq;rw[Jpx];show ak (ae<|aI (iG (bU<|bH<|fH (b:=Zl) rfl rfl)<|iG (bh<|(aD ((eN<|ah rfl).trans rfl) rfl).trans rfl)<|bU<|bH<|Jo (ah<|aq rfl rfl Qa) e)<|ax<|ae<|aI (cH (bU<|bH<|Jo (ag (aq rfl rfl JN) rfl)<|yh a.2.1 0)<|by simp_all)<|ax<|aj<|Jf (Vy (cH (Jo (ag (aq rfl rfl Ql)<|aO (aq rfl rfl JN) rfl)<|yh a.2.2<|a.2.1+1)<|congrArg IV.bl<|decide_eq_true m)<|DG (aq rfl rfl Ql) rfl B) #[rfl,x])
def Mq(ea:a U h=.ok (.bl x) h)(j:b U h=.ok (.bl y) h):sO a b bJ U h=.ok (.bl<|x||y) h:=by
 unfold sO;rw[ea];cases x
 .show j
 .rfl
def DK(ea:a U h=.ok (.bl x) h)(j:b U h=.ok (.bl y) h):c9 a b bJ U h=.ok (.bl<|x&&y) h:=by
 unfold c9;rw[ea];cases x
 .rfl
 .show j
theorem Jlx(a b):Cw (k+1) [az a,az b] h=.ok (.bl<|decide (a.2.2<=b.2.1)||decide (b.2.2<=a.2.1)) h:=Js (by rw[Jlq];show ak<|aj<|Jf (Mq ((aD (aq rfl rfl Ql)<|aq rfl rfl JN).trans rfl)<|(aD (aq rfl rfl Ql)<|aq rfl rfl JN).trans rfl) #[rfl,rfl])
theorem Mr(a b):xS (k+1) [az a,az b] h=.ok (.bl<|decide (b.2.1<=a.2.1)&&decide (a.2.2<=b.2.2)) h:=Js (by rw[Jp1];show ak<|aj<|Jf (DK ((aD (aq rfl rfl JN)<|aq rfl rfl JN).trans rfl)<|(aD (aq rfl rfl Ql)<|aq rfl rfl Ql).trans rfl) #[rfl,rfl])
theorem Jhg(t:yi a b):Cy (k+2) [az a,az b] h=.ok (.bl Zl) h:=Js (by
 have A:=Jlx (k:=k) (h:=h) a b;rw[Jhd];cases q:(decide (a.2.2<=b.2.1)||decide (b.2.2<=a.2.1))with|true=>rw[q]at A;show ak<|ae<|fG (bH<|Jo (ag rfl rfl) A)<|aj<|Jf rfl #[rfl,rfl]|false=>
  rw[q]at A;rw[Bool.or_eq_false_iff,decide_eq_false_iff_not,decide_eq_false_iff_not]at q;let#[ne,t]:=(t.resolve_left q.1).resolve_left q.2;calc ak<|ae<|aI (bH<|Jo (ag rfl rfl) A)<|ax<|ae<|aI (cH (bh<|(aD (aq rfl rfl Qa)<|aq rfl rfl Qa).trans rfl)<|decide_eq_false ne)<|ax<|aj<|Jf (Mq (Jo (ag rfl rfl)<|Mr a b)<|Jo (ag rfl rfl)<|Mr b a) #[congrArg IV.bl ?_,rfl];rcases t with t|t
  .lia
  .rw[decide_eq_true t.1,decide_eq_true t.2,Bool.or_comm];rfl)
def Jnv{hs:Tx}(D:h[i]?=M (.lst<|hs.map az))(hl:hs.length<=6)(H:∀m n (hm:m<n)(hn:n<hs.length),yi hs[n] hs[m]):
  WR (Cz (k+3) [.ref i] h) λv h'=>v=.bl Zl/\Ex h h':=by
 have F:=Jx;rw[Jdy];calc ak<|ae<|dO ?_;rw[Vs];calc Jf (ah rfl)<|(B8 _).mpr #[_,D,?_];refine JZ (λn U h'=>(∃a b,U=[M<|.ref i,a,b])/\Ex h h') (λn U h' ⟨_,x⟩=>x.get D) ?_ ?_ #[#[_,_,rfl],.refl h]
 .rintro n hn _ h' ⟨⟨a,b,rfl⟩,x⟩;have C:n<hs.length:=by rw[Ve,Zn]at hn;show hn
  rw[B9,ZN];have I:lu l7 'a' V3 (V4 'b') [M<|.ref i,M<|.int n,M<|az hs[n]] h'=.ok (.ref h'.length) (h'++[.lst<|(hs.map az).take n]):=Js ((YR ..).mpr<|Jf rfl (Jf rfl (Jf rfl ((xH ..).mpr #[_,x.get D,rfl,by rw[IF]]))));let#[_,_,J,rfl,g,rfl]:=(Qt (e:=LG<|k+2) (js:=[2]) (f:=λ_=>.bl Zl)
   (by rw[JC];show Jf I<|(JM _).mpr #[_,grown,rfl,rfl,rfl]) (by rw[pM,Zn];show Zb (Zd _ 999994)<|Zb (Zc (Zb (Zc (jr _ _) 1)<|Zc hl 1) 999994) F) (λO q=>q _ _ grown) (by intro v hv O q;let#[j,E,rfl]:=gG.mp hv;rw[pM,Zn]at E;have B:j<n:=Zb E<|p9 _ _;rw[List.getElem_take,ZN];show Jf (Jo (ag rfl rfl)<|Jhg<|H j n B C) #[rfl,.refl _])).eq
  show d4 rfl (aI (cH (bU<|bH<|(eN<|ah J).trans<|all_map Jz)<|by simp_all)<|ax #[#[_,_,rfl],x.trans<|(Ex.one _ _).trans<|.cons ..])
 .rintro _ h' ⟨⟨a,b,rfl⟩,x⟩;show aj<|Jf rfl #[rfl,x]
structure jd(len:Int)(hs:Tx):Prop where
 bR:hs.length<=6
 each:∀a∈hs,oK len a
 DL:∀m n (hm:m<n)(hn:n<hs.length),yi hs[n] hs[m]
def Jlz(D:h[i]?=M (.lst<|hs.map az))(ok:jd len hs):WR (Ym (k+4) [.ref i,.int len] h) λv h'=>v=.tup (hs.map az)/\Ex h h':=by have F:=Jx;have C:=ok.bR;let#[_,_,m,rfl,g,rfl]:=(Qt (it:=Jq 'a') (e:=Dx<|k+3) (js:=[1]) (U:=[M<|.ref i,M<|.int len]) (f:=λ_=>.bl Zl) (by rw[JC];show Jf rfl ((JM _).mpr #[_,D,rfl,rfl,rfl])) (by rw[Zn];show Zb (Zd _ 999994)<|Zb (Zc (Zc C 1) 999994) F) (λE q=>q _ _ D) (by intro v hv E q;let#[a,ha,rfl]:=ZS.mp hv;unfold Dx;show xb<|Jf (ag rfl rfl)<|Jp6<|ok.each a ha)).eq;rw[Jls];calc ak (ae<|aI (bh<|(aD rfl rfl).trans rfl)<|ax<|ae<|aI (bU (c:=Zl)<|bH<|fH rfl (by rw[xF D];rfl))<|ax<|ae<|aI (cH (fT (dD rfl D) rfl)<|decide_eq_false<|by rw[Zn];lia)<|ax<|ae<|aI (cH (bU<|bH<|(eN<|ah m).trans<|all_map Jz)<|by simp_all)<|ax ?_);have B:Ex h (h++IX.lst (List.map (λ_=>IV.bl Zl)<|hs.map az)::g):=.cons ..;let#[_,E,I,rfl,H]:=(Jnv (B.get D) C ok.DL).eq;have j:=H.get<|B.get D;let#[_,_,m,rfl,O,rfl]:=(Qt (it:=Jq 'a') (e:=LH<|k+3) (U:=[M<|.ref i,M<|.int len]) (f:=λx=>x) (by rw[JC];show Jf rfl ((JM _).mpr #[_,j,rfl,rfl,rfl])) (by rw[Zn];show Zb (Zd _ 999994)<|Zb (Zc (Zc C 1) 999994) F) (λE q=>q _ _ j) (by intro v hv J q;let#[a,ha,rfl]:=ZS.mp hv;show Jf (fF (ja (aq rfl rfl Qa) (aq rfl rfl JN)<|aq rfl rfl Ql) rfl) #[rfl,.refl _])).eq;rw[zg]at m;show ae<|aI (bU<|bH<|Jo (ah rfl) I)<|ax<|aj<|Jf ((eN<|ah m).trans<|Js<|(IJ ..).mpr #[_,Jz,rfl,rfl]) #[rfl,B.trans<|H.trans<|.cons ..]
theorem Jqe(h1:1<=aK)(h2:aK<=gap):Yl (k+3) [.int aK,.int gap] h=.ok (.int aK) h:=Js (by rw[Jp2];show ak<|ae<|aI (bh<|(aD rfl rfl).trans rfl)<|ax<|ae<|aI (iG (cH (bU<|bH<|Jo (ag rfl rfl)<|yh aK 1) 05)<|cH (fT rfl rfl)<|decide_eq_false<|dR.mpr h2)<|ax<|aj<|Jf rfl #[rfl,rfl])
noncomputable def ig (name:Str)(gap len aK af:Int)(hs:Tw):Wn:=[("name",.str name),("gap",.int gap),("length",.int len),("due",.int aK),("late",.int af),("hold_tuples",.tup hs)]
section
variable(a b c d e f:IV)
theorem DM:bG "name" a ([]:Wn)=([("name",a)]:Wn):=02
theorem DN:bG "gap" b ([("name",a)]:Wn)=([("name",a),("gap",b)]:Wn):=02
theorem put2:bG "length" c ([("name",a),("gap",b)]:Wn)=([("name",a),("gap",b),("length",c)]:Wn):=02
theorem put3:bG "due" d ([("name",a),("gap",b),("length",c)]:Wn)=([("name",a),("gap",b),("length",c),("due",d)]:Wn):=02
theorem DO:bG "late" e ([("name",a),("gap",b),("length",c),("due",d)]:Wn)=([("name",a),("gap",b),("length",c),("due",d),("late",e)]:Wn):=02
theorem DP:bG "hold_tuples" f ([("name",a),("gap",b),("length",c),("due",d),("late",e)]:Wn)=([("name",a),("gap",b),("length",c),("due",d),("late",e),("hold_tuples",f)]:Wn):=02
variable{name:Str}{gap len aK af:Int}{hs:Tw}
theorem DQ:(ig name gap len aK af hs).lookup ("name":Str)=M (.str name):=02
theorem p5:(ig name gap len aK af hs).lookup ("gap":Str)=M (.int gap):=02
theorem sP:(ig name gap len aK af hs).lookup ("length":Str)=M (.int len):=02
theorem o4:(ig name gap len aK af hs).lookup ("due":Str)=M (.int aK):=02
theorem mJ:(ig name gap len aK af hs).lookup ("late":Str)=M (.int af):=02
theorem fl5:(ig name gap len aK af hs).lookup ("hold_tuples":Str)=M (.tup hs):=02
theorem Ms:(ig name gap len aK af hs).lookup ("held":Str)=Z:=02
end
def Jui{dv hv:IV}(I:h[w]?=M (.ins "Work" []))(hn:cD name)(O:1<=gap)(hl:1<=len)(J:0<=af) (hd:∀h1,Yl (k+4) [dv,.int gap] h1=.ok (.int aK) h1)(B:∀h1:IH,(∀(j:Nat)(o:IX),j≠w->h[j]?=M o->h1[j]?=M o)->WR (Ym (k+4) [hv,.int len] h1) λv h2=>v=.tup hs/\Ex h1 h2):WR (xT (k+5) [.ref w,.str name,.int gap,.int len,dv,.int af,hv] h) λv h'=>v=.aw/\∃g,h'=h.set w (.ins "Work"<|ig name gap len aK af hs)++g:=by
 rw[Jlg];calc ak<|ae<|nG<|xb<|xb<|xb<|Jf (ah rfl)<|WR.mono (Mp hn) ?_;rintro v h1 ⟨rfl,g1,rfl⟩;have D:=JF I;have P:∀{o:IX},(h++g1).set w o=h.set w o++g1:=by intro o;rw[nQ (h:=D)]
 have m:∀{o:IX},(h.set w o++g1)[w]?=M o:=by intro o;rw[ZU (by simp_all),jw D]
 have C:∀{o E:IX},(h.set w o++g1).set w E=h.set w E++g1:=by intro o E;rw[nQ (h:=by rw[qn];show D),vO]
 have ok:∀{U:aE}{H F:E1}{a b:Int}{B:IH},H U B=.ok (.int a) B->F U B=.ok (.int b) B->b<=a->J7 (Ji bJ<|Jk (Vu<|k+4) []<|Jb H<|Jb F Je) U B=.ok Zm B:=λh1 h2 l=>cH (bU<|bH<|Jo (ag h1 h2)<|yh _ _)<|by simp_all
 calc Jf rfl (Jf rfl #[(λz=>by cases z),λ_=>ax<|ae<|aI (ok rfl rfl O)<|ax<|ae<|aI (ok rfl rfl hl)<|ax<|ae<|aI (ok rfl rfl J)<|ax<|ae<|Qu rfl rfl (grow I) 01 ?_]);rw[P,DM];calc ae (Qu rfl rfl m (by simp_all) ?_);rw[C,DN];calc ae (Qu rfl rfl m (by simp_all) ?_);rw[C,put2];calc ae (Qu (Jo (ag rfl rfl)<|hd _) rfl m (by simp_all) ?_);rw[C,put3];calc ae (Qu rfl rfl m (by simp_all) ?_);rw[C,DO];unfold LI;rw[YS];refine xb<|Jf (ag rfl rfl)<|WR.mono (B _ λj o Q e=>?_) ?_
 .calc grow ?_;rw[iy<|ZV Q];show e
 .rintro v h2 ⟨rfl,g2,rfl⟩;calc Jf rfl #[w,_,_,rfl,grow m,by change(5:Nat)<1000;decide,rfl,g1++g2,?_];rw[nQ (h:=JF m),C,DP,iz];rfl
def J0l{dv hv:IV}(hn:cD name)(C:1<=gap)(hl:1<=len)(B:0<=af) (hd:∀h1,Yl (k+4) [dv,.int gap] h1=.ok (.int aK) h1)(m:∀h1:IH,(∀(j:Nat)(o:IX),h[j]?=M o->h1[j]?=M o)->WR (Ym (k+4) [hv,.int len] h1) λv h2=>v=.tup hs/\Ex h1 h2):WR (xT (k+5) [.ref h.length,.str name,.int gap,.int len,dv,.int af,hv]<|h++[.ins "Work" []]) λv h'=>v=.aw/\∃g,h'=h++.ins "Work" (ig name gap len aK af hs)::g:=by calc WR.mono (Jui grown hn C hl B hd λh1 q=>m h1 λj o e=>q j o (by have:=JF e;show Zw this)<|grow e) ?_;rintro v h' ⟨rfl,g,rfl⟩;show#[rfl,g,by rw[YG];simp]
end
end
section
seal L4.run L4.WS
section
variable{k:Nat}{h:IH}
def Mt(j:h[w]?=M (.ins "Work"<|ig name gap len aK af hs)):CA (k+1) [.ref w] h=.ok (.ref h.length) (h++[.lst hs]):=by show Js<|by rw[Jlf];show ak<|aj<|Jf ((eN<|ah<|au rfl j fl5).trans rfl) #[rfl,rfl]
end
end
structure WD where
 name:Str
 gap:Int
 len:Int
 aK:Int
 af:Int
abbrev _root_.Tz:=List WD
def sU(h:IH)(v:IV)(d:WD):Prop:=∃i hs,v=.ref i/\h[i]?=M (.ins "Work"<|ig d.name d.gap d.len d.aK d.af hs)
def sU.kp(k:Kp h h')(w:sU h v d):sU h' v d:=by let#[i,j,e,q]:=w;show#[i,j,e,k _ _ q]
structure dZ(h:IH)(O:Tw)(ds:Tz):Prop where
 len:O.length=ds.length
 at_:∀(i:Nat) v d,O[i]?=M v->ds[i]?=M d->sU h v d
theorem dZ.kp(k:Kp h h')(w:dZ h O ds):dZ h' O ds:=#[w.len,λi v d a b=>(w.at_ i v d a b).kp k]
def dZ.of(w:dZ h O ds)(hv:v∈O):∃d∈ds,sU h v d:=by
 let#[i,D,rfl]:=gG.mp hv;have j:i<ds.length:=by rw[<-w.len];show D
 show#[ds[i],Z6 j,w.at_ i _ _ (Zh D)<|Zh j]
def kK(f:Str)(h:IH)(v:IV):IV:=(VH f v h).getD .aw
def dZ.mK(w:dZ h O ds)(m:∀(i:Nat) (d:WD) hs,h[i]?=M (.ins "Work"<|ig d.name d.gap d.len d.aK d.af hs)->F (.ref i)=g d):O.map F=ds.map g:=by
 refine pL λi=>?_
 rw[ZI,ZI];by_cases D:i<O.length
 .have k:i<ds.length:=by rw[<-w.len];show D
  rw[Zh D,Zh k];let#[j,hs,e,q]:=w.at_ i _ _ (Zh D)<|Zh k;simp;rw[e,m j _ hs q]
 .have k:¬i<ds.length:=by rw[<-w.len];show D
  rw[tJ<|ZH D,tJ<|ZH k];rfl
section
variable{k:Nat}{h:IH}
theorem Jwl:Xw ["Work"] (.ins "Work")=M Zl:=02
def Jl0(D:h[i]?=M (.lst O))(w:dZ h O ds)(nd:(ds.map (·.name)).Nodup)(hl:ds.length<=20):WR (C7 (k+1) [.ref i] h) λv h'=>v=.tup O/\Ex h h':=by have R:=Jx;have P:=w.len;rw[Jlt];let#[_,_,E,rfl,g,rfl]:=(Qt (it:=Jq 'a') (e:=L1 k) (U:=[M<|.ref i]) (f:=λ_=>.bl Zl) (by rw[JC];show Jf rfl ((JM _).mpr #[_,D,rfl,rfl,rfl])) 05 (λC q=>q _ _ D) (by intro v hv C q;let#[d,_,j,J,rfl,e]:=w.of hv;show Jf (fH rfl (by rw[show g9 (.ref j) C=M (.ins "Work") by simp[g9,q _ _ e]];show Jwl)) #[rfl,.refl _])).eq;calc ak (ae<|aI (bU (c:=Zl)<|bH<|fH rfl (by rw[xF D];rfl))<|ax<|ae<|aI (cH (bU<|bH<|(eN<|ah E).trans<|all_map Jz) 03)<|ax<|ae ?_);have B:Ex h (h++IX.lst (O.map λ_=>.bl Zl)::g):=.cons _ _ _;generalize h++IX.lst (O.map λ_=>.bl Zl)::g=H at B;have I:=w.kp B.kp;have m:=B.get D;let#[_,_,E,rfl,g2,rfl]:=(Qt (it:=Jq 'a') (e:=L5 k) (U:=[M<|.ref i]) (f:=kK "name" H) (by rw[JC];show Jf rfl ((JM _).mpr #[_,m,rfl,rfl,rfl])) 05 (λC q=>q _ _ m) (by intro v hv C q;let#[d,_,j,J,rfl,e]:=I.of hv;show Jf (au rfl (q _ _ e) DQ) #[by rw[kK,Q8 e,DQ];rfl,.refl _])).eq;rw[I.mK (g:=λd=>.str d.name) λj d J e=>by rw[kK,Q8 e,DQ];rfl,show ds.map (λd=>IV.str d.name)=(ds.map (·.name)).map IV.str by rw[d0];rfl]at E;have F:Ex H (H++IX.lst ((ds.map (·.name)).map IV.str)::g2):=.cons _ _ _;have Q:=Js (by rw[Juq];calc Jf (ah E) #[_,rfl,_,Jz,ds.map (·.name),Ca _,by rw[Zn];unfold kU;show Zb (Zc hl 2)<|Zd _ 4074,?_];rw[IM nd _<|Zk _,Zn];show#[rfl,rfl]);calc aI (cH (bh<|(aD Q<|dD rfl (F.get m)).trans rfl)<|by rw[P];simp)<|ax<|aj<|Jf ((eN<|ah rfl).trans<|Js ?_) #[rfl,B.trans F];change WR (VZ (.ref i) _) _;rw[IJ];show#[_,F.get m,rfl,rfl]
noncomputable def kM (top bottom:Int):Int:=(top+bottom-1)/bottom
def eV(ds:Tz):Int:=if ds.map (·.aK)=[]then 0 else JP (λi=>(ds.map (·.aK)).getD i 0) (ds.map (·.aK)).length
def X4(ds:Tz):Int:=(ds.map λd=>kM (eV ds+d.af) d.gap).sum
def DR(T:Int)(h:IH)(v:IV):IV:=match VH "late" v h,VH "gap" v h with|some (.int l),M (.int g)=>.int<|kM (T+l) g|_,_=>.aw
section
seal L4.run L4.WS
theorem Mu(j:0<b)(hl:b.natAbs.log2<9000):xP (k+1) [.int a,.int b] h=.ok (.int<|kM a b) h:=Js (by rw[Jlu];show ak<|aj<|Jf (JY (dE (aO rfl rfl) rfl) rfl j hl) #[rfl,rfl])
def Ju6(w:dZ h O ds)(hl:ds.length<=20)(H:∀d∈ds,0<d.gap/\d.gap.natAbs.log2<9000):WR (C8 (k+2) [.tup O] h) λv h'=>v=.int (X4 ds)/\Ex h h':=by have Q:=Jx;have P:=w.len;let#[_,_,m,rfl,g,rfl]:=(Qt (it:=Jq 'a') (e:=Dy<|k+1) (U:=[M<|.tup O,Z]) (f:=kK "due" h) #[rfl,rfl,rfl] 05 (λ_ _=>trivial) (by intro v hv J q;let#[d,_,j,C,rfl,e]:=w.of hv;show Jf (au rfl (q _ _ e) o4) #[by rw[kK,Q8 e,o4];rfl,.refl _])).eq;rw[w.mK (g:=λd=>.int d.aK) λj d C e=>by rw[kK,Q8 e,o4];rfl,show ds.map (λd=>IV.int d.aK)=(ds.map (·.aK)).map IV.int by rw[d0];rfl]at m;have B:Ex h (h++IX.lst ((ds.map (·.aK)).map IV.int)::g):=.cons _ _ _;have E:Vx (Jb (Jv (Jq 'a') 1 [] (aF 0) J2<|Dy<|k+1) Je) '0' [M<|.tup O,Z] h=.ok (.int<|eV ds) (h++IX.lst ((ds.map (·.aK)).map IV.int)::g):=Js (by rw[xJ];calc Jf (ah m)<|Jf rfl #[_,rfl,_,Jz,_,Qz _,?_,rfl];unfold maxD eV;split<;>rfl);generalize h++IX.lst ((ds.map (·.aK)).map IV.int)::g=I at B E;have D:=w.kp B.kp;let#[_,_,m,rfl,g2,rfl]:=(Qt (it:=Jq 'a') (e:=L6<|k+1) (js:=[1]) (U:=[M<|.tup O,M<|.int<|eV ds]) (f:=DR (eV ds) I) #[rfl,rfl,rfl] 05 (λ_ _=>trivial) (by intro v hv J q;let#[d,hd,j,C,rfl,e]:=D.of hv;have F:=q _ _ e;show Jf (Jo (ag (aO rfl (au rfl F mJ))<|au rfl F p5)<|Mu (H d hd).1 (H d hd).2) #[by rw[DR,Q8 e,Q8 e,mJ,p5],.refl _])).eq;rw[D.mK λj d C e=>by rw[DR,Q8 e,Q8 e,mJ,p5],show ds.map (λd=>IV.int<|kM (eV ds+d.af) d.gap)=(ds.map λd=>kM (eV ds+d.af) d.gap).map IV.int by rw[d0];rfl]at m;rw[Jm2];calc ak<|ae<|ao<|Jf E<|aj ?_;rw[J8b];calc Jf (ah m) ?_;change WR (cW (.ref _) _) _;rw[xI];show#[_,Jz,_,Qz _,rfl,B.trans<|.cons _ _ _]
abbrev o6(O:Tw):Wn:=[("works",.tup O)]
theorem dp0:bG "works" a ([]:Wn)=([("works",a)]:Wn):=02
theorem o7:(([("works",a)]:Wn)).lookup ("works":Str)=M a:=02
theorem DS:(([("works",a)]:Wn)).lookup ("work":Str)=Z:=02
def Jrv(D:h[i]?=M (.lst O))(w:dZ h O ds)(nd:(ds.map (·.name)).Nodup)(hl:ds.length<=12)(C:∀d∈ds,0<d.gap/\d.gap.natAbs.log2<9000)(j:X4 ds<=80):WR (x8 (k+3) [.ref h.length,.ref i]<|h++[.ins "Duty" []]) λv h'=>v=.aw/\∃g,h'=h++.ins "Duty" (o6 O)::g:=by have E:=w.len;rw[Jla];let#[_,_,m,rfl,g1,rfl]:=(Jl0 (grow D) (w.kp (Ex.one h<|IX.ins "Duty" []).kp) nd<|jo 06).eq;calc ak<|ae<|Qu (Jo (ah rfl) m) rfl (grow grown) 01 ?_;rw[dp0,iz,j8,mZ,QS];let#[_,_,B,rfl,g2,rfl]:=(Ju6 (w.kp (Ex.cons h (IX.ins "Duty"<|o6 O) g1).kp) (jo 06) C).eq;show ae<|aI (cH (fT ((eN<|ah<|au rfl Jz o7).trans rfl) rfl)<|decide_eq_false 05)<|ax<|aI (cH (fT (Jo (ah<|au rfl Jz o7) B) rfl)<|decide_eq_false<|dR.mpr j)<|ax #[rfl,g1++g2,03]
def DT(hD:h[bE]?=M (.ins "Duty"<|o6 O))(hx:bq O n=M x):Dc (k+1) [.ref bE,.int n] h=.ok x h:=by show Js<|by rw[Jlc];show ak<|aj<|Jf (aq (au rfl hD o7) rfl hx) #[rfl,rfl]
end
end
def J44(j:0<b)(h:a<=m*b):kM a b<=m:=by
 unfold kM;have:(a+b-1)/b<m+1:=by rw[Int.ediv_lt_iff_lt_mul j];lia
 show Int.le_of_lt_add_one 06
theorem Mv(m):∀l:To,(∀x∈l,x<=m)->l.sum<=l.length*m
 |[],_=>03
 |x::l,q=>by
  have:=Mv m l λy j=>q y<|Zq _ j
  have:=q x<|ZA ..;simp;lia
def yj{a b K:Nat}(h:a<=b)(k:b.log2<K):a.log2<K:=by
 by_cases ha:a=0
 .subst ha;show ZP (ZF _) k
 .have j:b≠0:=dH<|Zb (lD<|ZV<|ZV ha) h;rw[Nat.log2_lt ha];show ZP h<|(Nat.log2_lt j).mp k
abbrev RH:=WD×Tx
abbrev _root_.Ua:=List RH
noncomputable def rd:RH:=#[#[⟨#[]⟩,0,0,0,0],[]]
abbrev wo(r:RH):IX:=.ins "Work"<|ig r.1.name r.1.gap r.1.len r.1.aK r.1.af<|r.2.map az
structure gc(h:IH)(O:Tw)(rs:Ua):Prop where
 len:O.length=rs.length
 at_:∀(i:Nat) v r,O[i]?=M v->rs[i]?=M r->∃j,v=.ref j/\h[j]?=M (wo r)
theorem gc.kp(k:Kp h h')(w:gc h O rs):gc h' O rs:=#[w.len,λi v r a b=>let ⟨j,e,g⟩:=w.at_ i v r a b;#[j,e,k _ _ g]]
def gc.w(w:gc h O rs):dZ h O (rs.map (·.1)):=by calc#[by rw[Zn];show w.len,λi v d a b=>?_];rw[ZI]at b;cases k:rs[i]? with|none=>rw[k]at b;cases b|some r=>rw[k]at b;cases b;let#[j,e,g]:=w.at_ i v r a k;show#[j,_,e,g]
def gc.get(w:gc h O rs){n:Nat}(e:rs[n]?=M r):∃j,O[n]?=M (.ref j)/\h[j]?=M (wo r):=by
 have hn:n<O.length:=by rw[w.len];show(Zs.mp e).1
 let#[j,k,g]:=w.at_ n _ r (Zh hn) e;show#[j,by rw[Zh hn,k],g]
structure F8(unit:Int)(r:RH):Prop where
 nm:cD r.1.name
 g1:unit<=r.1.gap
 g2:r.1.gap<9*unit
 l1:1<=r.1.len
 d1:1<=r.1.aK
 d2:r.1.aK<=r.1.gap
 t1:0<=r.1.af
 t2:r.1.af<2*r.1.gap
 ok:jd r.1.len r.2
structure Gd(unit:Int)(rs:Ua):Prop where
 u1:1<=unit
 u2:unit<=10^40
 bR:rs.length<=7
 f:∀r∈rs,F8 unit r
 nd:(rs.map λr=>r.1.name).Nodup
def Mw(G:Gd unit rs):X4 (rs.map (·.1))<=80:=by
 have I:=G.u1;have B:=G.f;have H:=G.bR;have F:eV (rs.map (·.1))<=9*unit:=by
  unfold eV;split
  .lia
  .rename_i k;refine xM _ _ _ (by rw[Zn,Zn];cases rs with|nil=>show absurd rfl k|cons _ _=>simp) λj m=>?_
   rw[Zn,Zn]at m;have e:((rs.map (·.1)).map (·.aK)).getD j 0=(rs[j]).1.aK:=by rw[Z0,ZI,ZI,Zh m];rfl
   have f:=B _<|Z6 m;have C:=f.d2;have D:=f.g2;rw[e];show Z2<|Z1 C D
 have:=Mv 11 ((rs.map (·.1)).map λd=>kM (eV (rs.map (·.1))+d.af) d.gap) λx hx=>by let#[d,hd,rfl]:=ZS.mp hx;let#[r,E,rfl]:=ZS.mp hd;have f:=B r E;have C:=f.g1;have D:=f.t2;show J44 (ZR 06 06) 05
 rw[Zn,Zn]at this;unfold X4;lia
theorem Gd.gl(G:Gd unit rs):∀d∈rs.map (·.1),0<d.gap/\d.gap.natAbs.log2<9000:=λd hd=>by let#[r,j,rfl]:=ZS.mp hd;have f:=G.f r j;have k:=f.g1;have m:=f.g2;have u1:=G.u1;have u2:=G.u2;calc#[ZR 06 06,yj (b:=9*10^40) ?_<|by decide +kernel];lia
def cF(h:IH)(bE:Nat)(rs:Ua):Prop:=∃O,h[bE]?=M (.ins "Duty"<|o6 O)/\gc h O rs
theorem cF.kp(k:Kp h h')(w:cF h bE rs):cF h' bE rs:=let ⟨O,a,b⟩:=w;#[O,k _ _ a,b.kp k]
section
variable{k:Nat}{h:IH}
def J6o(D:h[i]?=M (.lst O))(w:gc h O rs)(G:Gd unit rs):WR (x8 (k+3) [.ref h.length,.ref i]<|h++[.ins "Duty" []]) λv h'=>v=.aw/\Ex h h'/\cF h' h.length rs:=by have j:=G.bR;calc WR.mono (Jrv D w.w (by have:=G.nd;rwa [d0]) (by rw[Zn];show jo 06) G.gl<|Mw G) ?_;rintro _ _ ⟨rfl,g,rfl⟩;show#[rfl,.cons _ _ _,O,Jz,w.kp (Ex.cons _ _ _).kp]
end
section
seal L4.run L4.WS
section
variable{k:Nat}{h:IH}
theorem e45(U)(h):Jc JK (eC<|.int 10) (eC<|.int 45) U h=.ok (.int<|10^45) h:=Js (by rw[YN,V8,V8,xD];show#[01,rfl,rfl])
theorem e30(U)(h):Jc JK (eC<|.int 10) (eC<|.int 30) U h=.ok (.int<|10^30) h:=Js (by rw[YN,V8,V8,xD];show#[01,rfl,rfl])
theorem e18(U)(h):Jc Jr (Jc JK (eC<|.int 10)<|eC<|.int 18) '9' U h=.ok (.int 1000000000000000009) h:=Js (by rw[YN,YN,V8,V8,xD];calc#[01,?_];show#[congrArg IV.int (by decide +kernel),rfl])
def Jt9(c)(m:Nat)(hm:m<=40):WR (Dd (k+1) [.int c,.int m] h) λv h'=>∃(i:Nat)(xs:To),v=.ref i/\h.length<=i/\h'[i]?=M (.lst<|xs.map .int)/\xs.length=m/\(∀x∈xs,(0:Int)<=x/\x<10^45)/\Ex h h':=by
 have V:=Jx;have O:(0:Int)<10^45:=by decide +kernel
 have le:(1000000000000000009:Int)<=10^45:=by decide +kernel
 obtain⟨T,Q⟩:∃T:Int,∀U h,Jc JK (eC<|.int 10) (eC<|.int 30) U h=.ok (.int T) h:=#[_,e30];obtain⟨G,S,W⟩:∃G:Int,(∀U h,Jc Jr (Jc JK (eC<|.int 10)<|eC<|.int 18) '9' U h=.ok (.int G) h)/\G=1000000000000000009:=#[_,e18,rfl];obtain⟨F,R,H,Fl,X⟩:∃F:Int,(∀U h,Jc JK (eC<|.int 10) (eC<|.int 45) U h=.ok (.int F) h)/\0<F/\F.natAbs.log2<9000/\F=10^45:=#[_,e45,O,by decide +kernel,rfl];rw[<-X]at le ⊢;rw[Jjk];refine ak<|ae<|ao<|Jf (cu rfl rfl)<|ae<|mG (sS rfl (Q _ _)) (λ_=>ae<|ao<|Jf (dE rfl (Q _ _))<|ae<|mI rfl (Zb (Zc hm 1)<|Zd _ 999959) ?_) λ_=>ax<|ae<|ao<|Jf (aO (bT rfl (S _ _) 05) rfl)<|ae<|mI (cH (aO rfl rfl) rfl) 05 ?_
 .refine JZ (λn U h'=>∃xs C a b,h'=h++[.lst<|xs.map IV.int]/\U=[M<|.int c,M<|.int (m:Int),M<|.ref h.length,M<|.int C,a,b]/\xs.length=n/\∀x∈xs,(0:Int)<=x/\x<F) (λ_ _ _ _=>trivial) ?_ ?_ #[[],_,_,_,rfl,rfl,rfl,03]
  .rintro n hn _ _ ⟨xs,C,a,b,rfl,rfl,D,hx⟩;rw[JQ]at hn;have J:=gm C (b:=F)<|iA H;have I:=iN C H;refine d4 rfl (ae<|Qg<|QD rfl grown VD (Jf (ah<|bT rfl (R _ _) H)<|jc grown (by rw[Zn];show Zb (Zd _ 999961)<|Zb (Zc (Zb (Zb (Zc (Zg D) 1) hn) hm) 999961) V)<|ao<|Jf (JY rfl (R _ _) H Fl) #[xs++[C%F],_,_,_,?_,rfl,by simp[D],λx B=>?_]))
   .rw[YG];simp
   .rw[ZQ,ZE]at B;rcases B with B|rfl
    .show hx x B
    .show#[J,I]
  .rintro _ _ ⟨xs,C,a,b,rfl,rfl,D,hx⟩;rw[JQ]at D;show aj<|Jf rfl #[_,xs,rfl,Zk _,grown,06,hx,.one _ _]
 .have s0:=gm c (b:=G) 05;have P:=iN c (b:=G) 05;refine JZ (λn U h'=>∃xs j a b,h'=h++[.lst<|xs.map IV.int]/\U=[M<|.int c,M<|.int (m:Int),M<|.ref h.length,a,b,M<|.int j]/\(0<=j/\j<2000000000000000000)/\xs.length=n/\∀x∈xs,(0:Int)<=x/\x<G) (λ_ _ _ _=>trivial) ?_ ?_ #[[],_,_,_,rfl,rfl,05,rfl,03]
  .rintro n hn _ _ ⟨xs,j,a,b,rfl,rfl,E,D,hx⟩;rw[QA];rw[JQ]at hn;have J:=gm (j*j+48271*j+(0+(n:Int))) (b:=G)<|iA<|Z1 s0 P;have I:=iN (j*j+48271*j+(0+(n:Int))) (b:=G)<|Z1 s0 P;refine d4 rfl (ae<|ao<|Jf (bT (aO (aO (eE rfl rfl (.inl 05))<|eE rfl rfl (.inl 01)) rfl) (S _ _)<|Z1 J I)<|Qg<|QD rfl grown VD (Jf (ah rfl)<|jc grown (by rw[Zn];lia) #[xs++[(j*j+48271*j+(0+(n:Int)))%G],_,_,_,?_,rfl,00,by simp[D],λx B=>?_]))
   .rw[YG];simp
   .rw[ZQ,ZE]at B;rcases B with B|rfl
    .show hx x B
    .show#[J,I]
  .rintro _ _ ⟨xs,j,a,b,rfl,rfl,E,D,hx⟩;rw[JQ]at D;calc aj<|(YR ..).mpr<|Jf rfl (Jf rfl (Jf rfl ((xH ..).mpr #[_,grown,?_])));rw[show(M (2:Int))=M ((2:Nat):Int)from rfl,IG,<-List.map_drop];calc#[_,xs.drop 2,rfl,03,grown,by simp;(rw[D];rfl),λx B=>?_,(Ex.one _ _).trans<|.one _ _];have:=hx x<|List.mem_of_mem_drop B;show#[this.1,(ZR (ZR this.2<|dP W) le)]
end
end
section
variable{k:Nat}{h:IH}
mutual
theorem Mx:∀d:j7,d.canLay0=Zl->lQ d d=Zl|.none,_=>by simp[lQ]|.bool _,_=>by simp[lQ]|.int _,_=>by simp[lQ]|.str _,_=>by simp[lQ]|.list xs,q=>by rw[lQ];show DU xs<|by rw[iD]at q;show q|.tuple xs,q=>by rw[lQ];show DU xs<|by rw[iD]at q;show q|.dict _,q=>by rw[iD]at q;cases q
theorem DU:∀ds:List j7,lP ds=Zl->qt ds ds=Zl|[],_=>by rw[qt]|d::ds,q=>by rw[lP,Zv]at q;rw[qt,Mx d q.1,DU ds q.2];rfl
end
def XY(e:h[i]?=M (.lst xs)):toD h (n+1) (.ref i)=(xs.mapM<|toD h n).map vY:=by change(match h[i]? with|some (.lst xs)=>(xs.mapM<|toD h n).map vY|_=>Z)=_;rw[e]
theorem yk:∀{xs:Tw},(∀x∈xs,f x=M (g x))->xs.mapM f=M (xs.map g)|[],_=>rfl|x::xs,q=>by rw[nX,q x<|ZA ..,yk λy j=>q y<|Zq _ j];rfl
theorem DV:∀{xs:Tw},(∀x∈xs,(g x).canLay0=Zl)->lP (xs.map g)=Zl|[],_=>by rw[zh,lP]|x::xs,q=>by rw[eP,lP,q x<|ZA ..,DV λy j=>q y<|Zq _ j];rfl
end
section
seal L4.run
section
variable{k:Nat}{h:IH}
def Jnc:(iE "abcdefghijklmnopqrstuvwxyz").cps.toList=(cO 26).map (97+ ·):=by decide +kernel
def Jnd:(iE "abcdefghijklmnopqrstuvwxyz").length=26:=by decide +kernel
def Js9(h0:0<=n)(h1:n<26):WR (Jh (.str "abcdefghijklmnopqrstuvwxyz") (.int n) h) Q=Q (.str ⟨#[97+n.toNat]⟩) h:=by
 have j:=Jx;have e:bq (iE "abcdefghijklmnopqrstuvwxyz").cps.toList n=M (97+n.toNat):=by rw[Jnc];calc B5 h0 ?_;rw[ZI,tL 05];rfl
 change WR (if (iE "abcdefghijklmnopqrstuvwxyz").length<=sizeLine then(match bq (iE "abcdefghijklmnopqrstuvwxyz").cps.toList n with|some c=>Res.ok (IV.str ⟨#[c]⟩) h|none=>.stuck)else .stuck) Q=_;rw[if_pos (by rw[Jnd];show fU _ _),e];rfl
def J1r(l m:Tp):(⟨l.toArray⟩:Str)++(⟨m.toArray⟩:Str)=⟨(l++m).toArray⟩:=by change Str.append _ _=_;unfold Str.append;simp
def YK(l:Tp):(⟨l.toArray⟩:Str).length=l.length:=by simp[tZ]
def Jrw:(iE "")=(⟨([]:Tp).toArray⟩:Str):=by decide +kernel
noncomputable def kN (c:Int):Int:=1+c%8
def je(c:Int):Int:=c/8%kN c
def wB(c:Int):Tp:=(cO (kN c).toNat).map λj:Nat=>97+(c/(11+(j:Int)*(j:Int))%26).toNat
def wL(c:Int)(q:Nat):Tp:=((wB c).take (je c).toNat++[97+((c/64+(q:Int))%26).toNat])++(wB c).drop ((je c).toNat+1)
def wd(c:Int)(q:Nat):Str:=⟨(wL c q).toArray⟩
def rn(c):0<kN c/\kN c<=8/\0<=je c/\je c<kN c:=by
 have j:0<kN c/\kN c<=8:=by unfold kN;(rw[m8];show#[(Z1 (gm _<|iA 01)<|jy _ 01),(iN _ 01)])
 show#[j.1,j.2,gm _<|iA j.1,iN _ j.1]
def My(c):(wB c).length=(kN c).toNat:=by simp[wB]
def Mz(c)(q):(wL c q).length=(kN c).toNat:=by have:=rn c;simp[wL,My];show FC<|(Int.toNat_lt_toNat this.1).mpr this.2.2.2
def MA(c)(q):cD (wd c q):=by
 have m:=rn c;refine#[?_,?_,?_]
 .rw[wd,YK,Mz];omega
 .rw[wd,YK,Mz];lia
 .intro x hx;have hx:x∈wL c q:=by simpa[wd]using hx
  have k:∀x∈wB c,97<=x/\x<=122:=λx hx=>by let#[j,_,rfl]:=ZS.mp hx;lia
  have B:=gm (c/64+(q:Int)) (b:=26) 01;have C:=iN (c/64+(q:Int)) (b:=26) 01;simp![wL,ZQ,ZE]at hx;rcases hx with(hx|rfl)|hx
  .show k x<|List.mem_of_mem_take hx
  .lia
  .show k x<|List.mem_of_mem_drop hx
def MB(hp:p<26)(k:q<26)(e:wd c p=wd c q):p=q:=by
 have j:wL c p=wL c q:=by have:(wL c p).toArray=(wL c q).toArray:=congrArg Str.cps e;simpa using this
 have m:(97+((c/64+(p:Int))%26).toNat)=97+((c/64+(q:Int))%26).toNat:=by have:=List.append_cancel_right j;have:=List.append_cancel_left this;simpa using this
 omega
noncomputable def DX (c:Int)(v:IV):IV:=match v with|.int j=>.str ⟨#[97+(c/(11+j*j)%26).toNat]⟩|_=>.aw
def Jqj(l:Tp):QC (l.map λx=>IV.str ⟨#[x]⟩)=M (sD ⟨l.toArray⟩):=by have:=Ca<|sD ⟨l.toArray⟩;rw[<-this];simp[sD];rfl
def J0a{l:Tp}(hl:l.length<=8):JoinOk (iE "") (sD ⟨l.toArray⟩)=Zl:=by
 have B:=Jx;have j:(iE "").length=0:=by decide +kernel
 have:∀(m:Tp) (a:Nat),(m.map λx=>(⟨#[x]⟩:Str)).foldl (λn (x:Str)=>n+x.length+(iE "").length) a=a+m.length:=by intro m;induction m with|nil=>intro a;rfl|cons x m k=>intro a;rw[eP,vN,k,j];simp[tZ];show mQ _ _ _
 have e:(sD ⟨l.toArray⟩).foldl (λn (x:Str)=>n+x.length+(iE "").length) 0=0+l.length:=this l 0;unfold JoinOk Builtin.Str.tooLong;simp;lia
def letE(ea:a U h=.ok (.str "abcdefghijklmnopqrstuvwxyz") h1)(j:b U h1=.ok (.int n) h1)(n0:0<=n)(n1:n<26):Jc Jh a b U h=.ok (.str ⟨#[97+n.toNat]⟩) h1:=by rw[aD ea j];show Js<|by rw[Js9 n0 n1];show#[rfl,rfl]
def MC(ea:a U h=.ok (.str x) h)(el:lo U h=.ok l h)(k:D U h=.ok u h)(z:x.length<=8)(e:t9 x l u=y):lu pX a lo D U h=.ok (.str y) h:=by have j:=Jx;calc Js<|(YR ..).mpr<|Jf ea<|Jf el<|Jf k ?_;rw[J2d,e];show#[Zb (Zd _ 999993)<|Zb (Zc z 999993) j,rfl,rfl]
def uV{x y:Tp}(ea:a U h=.ok (.str ⟨x.toArray⟩) h)(j:b U h=.ok (.str ⟨y.toArray⟩) h)(z:x.length+y.length<=9):Jc Jr a b U h=.ok (.str ⟨(x++y).toArray⟩) h:=by have k:=Jx;rw[aD ea j];calc Js ?_;rw[J13,J1r,YK,YK];show#[Zb (Zd _ 999992)<|Zb (Zc z 999992) k,rfl,rfl]
def MD(c:Int)(q:Nat):WR (x9 (k+1) [.int c,.int q] h) λv h'=>v=.str (wd c q)/\Ex h h':=by
 have Q:=Jx;have m:=rn c;have bl:=My c;have B:(⟨(wB c).toArray⟩:Str).length=(wB c).length:=YK _;rw[Jm6];refine ak (ae<|ao<|Jf rfl (ae<|ao<|Jf (a:=.int<|kN c) (aO rfl (bT rfl rfl 01))<|ae<|ao<|(J17 (x:=iE "") (h1:=h) rfl Jy6).mpr<|xb<|WR.mono (Qt (h:=h) (xs:=aZ 0<|kN c) (bK:=λ_=>True) (f:=DX c) ?_ (by rw[JQ];omega) (λ_ _=>trivial) ?_) ?_))
 .rw[Vs];calc Jf (ah rfl) ?_;rw[Ye];show#[00,rfl,rfl,rfl]
 .intro x hx P S;let#[n,hn,rfl]:=gG.mp hx;rw[QA,show(0+(n:Int))=(n:Int) by show m8 _ _];rw[JQ]at hn;have C:n<8:=00;have sq:=(by decide:∀n:Nat,n<8->(n:Int)*(n:Int)<=49/\0<=(n:Int)*(n:Int)) n C;unfold L7;show Jf (letE rfl (bT (JY rfl (aO rfl (eE rfl rfl (.inl<|Zb C<|Zd _ 18446744073709551608))) (Z1 sq.2<|tR _ 01) (yj (b:=60) 00 01)) rfl 01) (gm _ 01) (iN _ 01)) #[rfl,.refl _]
 .rintro _ _ ⟨rfl,g,rfl⟩;have H:(aZ 0<|kN c).map (DX c)=(wB c).map λx=>IV.str ⟨#[x]⟩:=by
   rw[wB,d0];refine kZ (by rw[Zn,Zn,JQ,mY];lia) λi h1 P=>?_
   rw[ZN,QA,ZN,qm];simp[DX]
  rw[H];have E:Ex h (h++IX.lst ((wB c).map λx=>IV.str ⟨#[x]⟩)::g):=.cons _ _ _;have g1:(h++IX.lst ((wB c).map λx=>IV.str ⟨#[x]⟩)::g)[h.length]?=M (.lst<|(wB c).map λx=>IV.str ⟨#[x]⟩):=Jz;generalize h++IX.lst ((wB c).map λx=>IV.str ⟨#[x]⟩)::g=h1 at E g1;have I:Txt.join (iE "") (sD ⟨(wB c).toArray⟩)=⟨(wB c).toArray⟩:=by rw[Jrw];show(StrLaws.glued_eq_join _ _).trans<|PyProof.Rows.join_nil_signs _
  have J:t9 ⟨(wB c).toArray⟩ Z (M<|je c)=⟨((wB c).take (je c).toNat).toArray⟩:=by have:=beq_iff_eq.mp (PyProof.Rows.slice_closes_toL (x:=⟨(wB c).toArray⟩) (j:=je c) m.2.2.1<|by rw[B,bl];show Z2<|ZR m.2.2.2<|tT _);rw[this];simp
  have F:t9 ⟨(wB c).toArray⟩ (M<|je c+1) Z=⟨((wB c).drop<|(je c).toNat+1).toArray⟩:=by have:=beq_iff_eq.mp (PyProof.Rows.slice_closes_fromL (x:=⟨(wB c).toArray⟩) (i:=je c+1) (Z2<|Z1 m.2.2.1<|jy _ 01) (by rw[B,bl];show ZR m.2.2.2<|tT _) rfl);rw[this];have O:(je c+1).toNat=(je c).toNat+1:=Int.toNat_add m.2.2.1 01;rw[O,lJ (by rw[vK];change _<=((⟨(wB c).toArray⟩:Str).length-(je c+1)).toNat;rw[B];simp;omega)]
  have D:(⟨(wB c).toArray⟩:Str).length<=8:=05;have R:=List.length_take_le (je c).toNat<|wB c;have U:((wB c).drop<|(je c).toNat+1).length<=8-(je c).toNat-1:=by rw[vK];(rw[Nat.sub_sub];show rJ (Zb (Zg B.symm) D) _)
  calc Jf rfl (J19.mpr #[_,g1,_,Jqj _,J0a (show(wB c).length<=8 by assumption),?_]);rw[I];refine ae<|ao<|Jf (a:=.int<|je c) (bT (JY rfl rfl 01 01) rfl m.1)<|aj<|Jf (uV (uV (MC rfl rfl rfl D J) (letE rfl (bT (aO (JY rfl rfl 01 01) rfl) rfl 01) (gm _ 01) (iN _ 01)) ?_) (MC rfl rfl rfl D F) ?_) #[rfl,E]
  .simp;show Zb (Zb (jr _ _)<|Zg B.symm) D
  .simp;(rw[bl,qa,lE 1,FC<|(Int.toNat_lt_toNat m.1).mpr m.2.2.2];show nK<|Int.toNat_le.mpr m.2.1)
end
end
section
seal L4.run
theorem rq{xs:To}(hn:n<xs.length):∃x,bq (xs.map IV.int) (n:Int)=M (.int x):=#[xs[n],JI 03]
def XA(D:cand.length<=2)(each:∀a∈cand,cD a.1/\0<=a.2.1/\a.2.2<len)(DL:∀a b,cand=[a,b]->yi b a):jd len (cand.filter λa=>decide (a.2.1<a.2.2)):=by
 refine#[Zb (sh _ _)<|jo 06,λa ha=>?_,λm n hm hn=>?_]
 .let#[E,I]:=lK.mp ha;let#[F,C,H]:=each a E;show#[F,C,by simpa using I,H]
 .have B:=sh (λa:Hd=>decide (a.2.1<a.2.2)) cand;cases cand with|nil=>simp at hn|cons a t=>
   cases t with|nil=>simp at B;omega|cons b t=>
    cases t with|cons _ _=>simp![ji]at D;lia|nil=>
     have e:[a,b].filter (λa:Hd=>decide (a.2.1<a.2.2))=[a,b]:=by
      refine List.filter_eq_self.mpr λx hx=>?_
      by_cases ea:a.2.1<a.2.2
      .by_cases j:b.2.1<b.2.2
       .simp at hx;rcases hx with rfl|rfl<;>simpa
       .simp[ea,j]at hn;lia
      .by_cases j:b.2.1<b.2.2<;>simp[ea,j]at hn<;>lia
     have k:m=0/\n=1:=by rw[e]at hn;lia
     let#[rfl,rfl]:=k;simp![e];show DL a b rfl
section
variable{k:Nat}{h:IH}
def Jw7(D:h[i]?=M (.lst<|ms.map .int))(hl:ms.length<64):XU (.ref i) h=.ok (.ref h.length) (h++[.lst<|(Qo ms).map .int]):=by dsimp only[XU];rw[D];dsimp only;rw[if_pos<|by simp_all];unfold qR;rw[Qz]
def J74(hl:ms.length=4)(hm:∀x∈ms,0<=x/\x<len):∃p0 p1 p2 p3:Int,Qo ms=[p0,p1,p2,p3]/\0<=p0/\p0<=p1/\p1<=p2/\p2<=p3/\p3<len:=by
 have pw:=G8 ms;have l:(Qo ms).length=4:=by rw[Qo,List.length_mergeSort];show hl
 have mem:∀x∈Qo ms,0<=x/\x<len:=λx hx=>hm x<|List.mem_mergeSort.mp hx
 match Qo ms,l,pw,mem with|[p0,p1,p2,p3],_,pw,mem=>simp![nU,ZC,eZ,or_false]at pw;let#[a,b,c,_]:=pw;have k:=mem p0 03;have j:=mem p3 03;show#[p0,p1,p2,p3,rfl,k.1,a p1<|.inl rfl,b p2<|.inl rfl,c p3 rfl,j.2]
noncomputable def ME (v:IV):Bool:=match v with|.tup [_,.int s,.int e]=>decide (s<e)|_=>Zm
def Jr5(j:Tx):(j.map az).filter ME=(j.filter λa=>decide (a.2.1<a.2.2)).map az:=by rw[List.filter_map];rfl
noncomputable def bY (one other:Str)(p0 p1 p2 p3:Int):Nat->Tx|0=>[]|1=>[(one,p0,p3)]|2=>[(one,p0,p3),(other,p1,p2)]|3=>[(other,p1,p2),(one,p0,p3)]|4=>[(one,p0,p1),(other,p2,p3)]|_=>[(one,p2,p3),(one,p0,p1)]
def J10(n)(h1:cD one)(h2:cD other)(ne:one≠other)(k:0<=p0)(C:p0<=p1)(m:p1<=p2)(B:p2<=p3)(j:p3<len):jd len ((bY one other p0 p1 p2 p3 n).filter λa=>decide (a.2.1<a.2.2)):=by
 match n with
 |0=>show XA (by simp[bY]) (by simp[bY])<|by simp[bY]
 |1=>
  refine XA (by simp[bY]) (λa ha=>?_)<|by simp[bY]
  simp![bY,ZC,eZ,or_false]at ha;subst ha;show#[h1,k,j]
 |2=>
  refine XA (by simp[bY]) (λa ha=>?_) λa b e=>?_
  .simp only[bY,ZC,eZ,or_false]at ha;rcases ha with rfl|rfl
   .show#[h1,k,j]
   .show#[h2,by change 0<=p1;show Z8 k C,by change p2<len;show Z1 B j]
  .simp only[bY,t7,and_true]at e;let#[rfl,rfl]:=e;show .inr<|.inr #[ZV ne,.inl #[C,B]]
 |3=>
  refine XA (by simp[bY]) (λa ha=>?_) λa b e=>?_
  .simp only[bY,ZC,eZ,or_false]at ha;rcases ha with rfl|rfl
   .show#[h2,by change 0<=p1;show Z8 k C,by change p2<len;show Z1 B j]
   .show#[h1,k,j]
  .simp only[bY,t7,and_true]at e;let#[rfl,rfl]:=e;show .inr<|.inr #[ne,.inr #[C,B]]
 |4=>
  refine XA (by simp[bY]) (λa ha=>?_) λa b e=>?_
  .simp only[bY,ZC,eZ,or_false]at ha;rcases ha with rfl|rfl
   .show#[h1,k,by change p1<len;show Z1 (Z8 m B) j]
   .show#[h2,by change 0<=p2;show Z8 (Z8 k C) m,j]
  .simp only[bY,t7,and_true]at e;let#[rfl,rfl]:=e;show .inr<|.inl m
 |n+5=>
  refine XA (by simp[bY]) (λa ha=>?_) λa b e=>?_
  .simp only[bY,ZC,eZ,or_false]at ha;rcases ha with rfl|rfl
   .show#[h1,by change 0<=p2;show Z8 (Z8 k C) m,j]
   .show#[h1,k,by change p1<len;show Z1 (Z8 m B) j]
  .simp only[bY,t7,and_true]at e;let#[rfl,rfl]:=e;show .inl m
def Jzy{xs:To}(c0:C[i0]?=M (.lst []))(P:C[i1]?=M (.lst [az (one,p0,p3)]))(J:C[i2]?=M (.lst [az (one,p0,p3),az (other,p1,p2)]))(Q:C[i3]?=M (.lst [az (other,p1,p2),az (one,p0,p3)])) (E:C[i4]?=M (.lst [az (one,p0,p1),az (other,p2,p3)]))(R:C[i5]?=M (.lst [az (one,p2,p3),az (one,p0,p1)]))(U:C[bD]?=M (.lst [.ref i0,.ref i1,.ref i2,.ref i3,.ref i4,.ref i5]))(O:C[X]?=M (.lst<|xs.map .int))(S:bq (xs.map IV.int) 6=M (.int y6)):WS (L9 k [M<|.ref X,a1,a2,a3,a4,a5,M<|.ref bD] C) N λv h'=>∃q n,v=.ref q/\C.length<=q/\h'[q]?=M (.lst<|((bY one other p0 p1 p2 p3 n).filter λa=>decide (a.2.1<a.2.2)).map az)/\Ex C h':=by
 have F:=Jx;have j:∃(n m:Nat),bq [IV.ref i0,IV.ref i1,IV.ref i2,IV.ref i3,IV.ref i4,IV.ref i5] (y6%6)=M (.ref m)/\C[m]?=M (.lst<|(bY one other p0 p1 p2 p3 n).map az):=by
  have:y6%6=0\/y6%6=1\/y6%6=2\/y6%6=3\/y6%6=4\/y6%6=5:=05;rcases this with e|e|e|e|e|e<;>rw[e]
  .show#[0,i0,Qa,c0]
  .show#[1,i1,JN,P]
  .show#[2,i2,Ql,J]
  .show#[3,i3,Vb,Q]
  .show#[4,i4,Yt,E]
  .show#[5,i5,JI rfl,R]
 let#[n,m,I,B]:=j;have H:(bY one other p0 p1 p2 p3 n).length<=2:=by match n with|0|1|2|3|4|n+5=>simp[bY]
 refine aj (WR.mono (xG (xs:=(bY one other p0 p1 p2 p3 n).map az) (p:=ME) (f:=λv=>v) ?_ (by rw[Zn];show Zb (Zd _ 999998)<|Zb (Zc (Zc H 1) 999998) F) (λD q=>q _ _ B) ?_ ?_) ?_)
 .rw[JC];show Jf (aQ rfl (bT (aQ rfl rfl O S) rfl 01) U I)<|(JM _).mpr #[_,B,rfl,rfl,rfl]
 .intro v hv D q;let#[a,_,rfl]:=ZS.mp hv;show Jf (lA (aq rfl rfl rfl)<|aq rfl rfl rfl) #[rfl,.refl _]
 .intro v hv _ D q;show#[rfl,.refl _]
 .rintro _ _ ⟨rfl,g,rfl⟩;calc#[_,n,rfl,Zk _,?_,.cons _ _ _];rw[Jz,zg,Jr5]
def DY(ea:a U h=.ok x h1)(j:b U h1=.ok y h2)(q:WR (f x y h2) P):WR (Jc f a b U h) P:=by rw[aD ea j];show q
theorem V6(k:C[Pp]?=M (.lst ps))(j:Ja 3 U C=.ok (.ref Pp) C)(B:Ja s U C=.ok (.str w) C)(ea:bq ps a=M (.int x))(m:bq ps b=M (.int y)):bO (Jb (Ja s)<|Jb (Jc Jh 'd'<|eC<|.int a)<|Jb (Jc Jh 'd'<|eC<|.int b) Je) U C=.ok (az (w,x,y)) C:=fF (ja B (aQ j rfl k ea)<|aQ j rfl k m) rfl
def Jzx{xs:To}(c0:C[i0]?=M (.lst []))(J:C[i1]?=M (.lst [az (one,p0,p3)]))(F:C[i2]?=M (.lst [az (one,p0,p3),az (other,p1,p2)]))(O:C[i3]?=M (.lst [az (other,p1,p2),az (one,p0,p3)])) (D:C[bD]?=M (.lst [.ref i0,.ref i1,.ref i2,.ref i3]))(m:C[Pp]?=M (.lst [.int p0,.int p1,.int p2,.int p3]))(H:C[X]?=M (.lst<|xs.map .int))(P:bq (xs.map IV.int) 6=M (.int y6)):WS (Ma k [M<|.ref X,a1,a2,M<|.ref Pp,M<|.str one,M<|.str other,M<|.ref bD] C) N λv h'=>∃q n,v=.ref q/\C.length<=q/\h'[q]?=M (.lst<|((bY one other p0 p1 p2 p3 n).filter λa=>decide (a.2.1<a.2.2)).map az)/\Ex C h':=by
 have Q:=Jx;calc ae<|ao<|DY rfl (cu (ag (cu (ag (V6 m rfl rfl rfl rfl)<|V6 m rfl rfl rfl rfl) rfl)<|cu (ag (V6 (grow m) rfl rfl rfl rfl)<|V6 (grow m) rfl rfl rfl rfl) rfl) rfl) ?_;calc(IK ..).mpr #[_,grow<|grow<|grow D,_,grown,by simp;show fU _ _,?_];have j:∀a b c d,Ex C (C++[a]++[b]++[c]++[d]):=λa b c d=>(Ex.one _ _).trans<|(Ex.one _ _).trans<|(Ex.one _ _).trans<|.one _ _
 calc WS.mono (Jzy ((j _ _ _ _).get c0) ((j _ _ _ _).get J) ((j _ _ _ _).get F) ((j _ _ _ _).get O) (grow<|grow<|grow grown) (grow<|grow grown) grown ((j _ _ _ _).get H) P) (λ_ _ z=>z) ?_;rintro v h' ⟨q,n,rfl,I,E,B⟩;calc#[q,n,rfl,?_,E,(j _ _ _ _).trans B];simp at I;show Zb (Zd _ _) 06
def Jzw{xs:To}(j:C[Pp]?=M (.lst [.int p0,.int p1,.int p2,.int p3]))(E:C[X]?=M (.lst<|xs.map .int))(H:bq (xs.map IV.int) 6=M (.int y6)):WS (Mb k [M<|.ref X,a1,a2,M<|.ref Pp,M<|.str one,M<|.str other,a6] C) N λv h'=>∃q n,v=.ref q/\C.length<=q/\h'[q]?=M (.lst<|((bY one other p0 p1 p2 p3 n).filter λa=>decide (a.2.1<a.2.2)).map az)/\Ex C h':=by
 have I:=Jx;calc ae<|ao<|Jf (cu (jJ (cu rfl rfl) (cu (ah<|V6 (grow j) rfl rfl rfl rfl) rfl) (cu (ag (V6 (grow<|grow j) rfl rfl rfl rfl)<|V6 (grow<|grow j) rfl rfl rfl rfl) rfl)<|cu (ag (V6 (grow<|grow<|grow j) rfl rfl rfl rfl)<|V6 (grow<|grow<|grow j) rfl rfl rfl rfl) rfl) rfl) ?_;have m:∀a b c d e,Ex C (C++[a]++[b]++[c]++[d]++[e]):=λa b c d e=>(Ex.one _ _).trans<|(Ex.one _ _).trans<|(Ex.one _ _).trans<|(Ex.one _ _).trans<|.one _ _
 calc WS.mono (Jzx (grow<|grow<|grow<|grow grown) (grow<|grow<|grow grown) (grow<|grow grown) (grow grown) grown ((m _ _ _ _ _).get j) ((m _ _ _ _ _).get E) H) (λ_ _ z=>z) ?_;rintro v h' ⟨q,n,rfl,F,D,B⟩;calc#[q,n,rfl,?_,D,(m _ _ _ _ _).trans B];simp at F;show Zb (Zd _ _) 06
def uW(len:Int)(v:IV):IV:=match v with|.int x=>.int (x%len)|_=>.aw
def Jvp{xs:To}{ws:Tj}(Q:h[X]?=M (.lst<|xs.map .int))(lx:7<=xs.length)(hW:h[W]?=M (.lst<|ws.map .str))(lw:ws.length=3)(U:∀x∈ws,cD x)(nd:ws.Nodup)(h1:1<=len):
  WR (De (k+1) [.ref X,.int len,.ref W] h) λv h'=>∃q hs,v=.ref q/\h.length<=q/\h'[q]?=M (.lst<|hs.map az)/\jd len hs/\Ex h h':=by
 have hb:=Jx;rw[Jll];have l4:(xs.take 4).length=4:=by rw[pM];lia
 refine ak (ae<|ao<|xb<|xb<|WR.mono (Qt (xs:=(xs.take 4).map IV.int) (bK:=λh'=>h'[h.length]?=M (.lst<|(xs.take 4).map IV.int)) (f:=uW len) ?_ (by rw[Zn,l4];show fU _ _) (λh2 q=>q _ _ grown) ?_) ?_)
 .rw[JC];calc(YR ..).mpr<|Jf rfl (Jf rfl (Jf rfl ((xH ..).mpr #[_,Q,?_])));rw[show(M (4:Int))=M ((4:Nat):Int)from rfl,IF,<-List.map_take];show(JM _).mpr #[_,grown,rfl,rfl,rfl]
 .intro v hv h2 q;let#[x,hx,rfl]:=ZS.mp hv;unfold L8;show Jf (bT rfl rfl 06) #[rfl,.refl _]
 .rintro _ _ ⟨rfl,g,rfl⟩;have em:((xs.take 4).map IV.int).map (uW len)=((xs.take 4).map (· %len)).map IV.int:=by rw[d0,d0];rfl
  rw[em];have V:((xs.take 4).map (· %len)).length=4:=by rw[Zn,l4]
  let#[p0,p1,p2,p3,es,a0,a1,a2,a3,a4]:=J74 (len:=len) V λx hx=>by let#[y,_,rfl]:=ZS.mp hx;show#[gm _<|iA 06,iN _ 06]
  generalize J:h++[IX.lst<|(xs.take 4).map IV.int]=B;have xA:Ex h B:=by rw[<-J];show .one _ _
  calc Jf rfl (Jf ((Jw7 Jz<|Zb (Zc (Zg V) 1)<|Zd _ 59).trans<|by rw[es]) ?_);have xB:Ex B (B++IX.lst (((xs.take 4).map (· %len)).map IV.int)::g++[IX.lst<|[p0,p1,p2,p3].map IV.int]):=(Ex.cons _ _ _).trans<|.one _ _;have O:(B++IX.lst (((xs.take 4).map (· %len)).map IV.int)::g++[IX.lst<|[p0,p1,p2,p3].map IV.int])[(B++IX.lst (((xs.take 4).map (· %len)).map IV.int)::g).length]?=M (.lst [.int p0,.int p1,.int p2,.int p3]):=grown;generalize (B++IX.lst (((xs.take 4).map (· %len)).map IV.int)::g).length=Pp at O ⊢;generalize B++IX.lst (((xs.take 4).map (· %len)).map IV.int)::g++[IX.lst<|[p0,p1,p2,p3].map IV.int]=hB at xB O ⊢;have H:=xA.trans xB;have m:=H.get Q;have E:=H.get hW;let#[I,Y]:=rq (xs:=xs) (n:=4)<|ZP (fU _ _) 06;let#[y5,e5]:=rq (xs:=xs) (n:=5)<|fM 06;let#[y6,e6]:=rq (xs:=xs) (n:=6)<|lx;obtain⟨i,D⟩:∃i:Nat,I%3=i:=#[(I%3).toNat,m7 (tT _)<|dP<|sC<|gm _<|iA 01];obtain⟨j,hj⟩:∃j:Nat,(I+1+y5%2)%3=j:=#[((I+1+y5%2)%3).toNat,m7 (tT _)<|dP<|sC<|gm _<|iA 01];have F:i<ws.length:=05;have C:j<ws.length:=05;have P:i≠j:=05;have S:∀n (hn:n<ws.length),bq (ws.map IV.str) (n:Int)=M (.str ws[n]):=λn hn=>JI<|by simp_all
  have A1:=S i F;have R:=S j C;rw[<-D]at A1;rw[<-hj]at R;have n1:=U _<|Z6 F;have n2:=U _<|Z6 C;have ne:ws[i]≠ws[j]:=λe=>P<|(vJ nd).mp e
  calc ae<|ao<|Jf (aQ rfl (bT (aQ rfl rfl m Y) rfl 01) E A1) ?_;calc ae<|ao<|Jf (aQ rfl (bT (aO (aO (aQ rfl rfl m Y) rfl)<|bT (aQ rfl rfl m e5) rfl 01) rfl 01) E R) ?_;calc WS.mono (Jzw (k:=k) (p0:=p0) (p1:=p1) (p2:=p2) (p3:=p3) (N:=λ_ _=>False) O m e6) (λ_ _ z=>z.elim) ?_;rintro v h' ⟨q,n,rfl,lq,gq,x'⟩;have:=H.len;show#[q,_,rfl,Zb this lq,gq,J10 (len:=len) n n1 n2 ne a0 a1 a2 a3 a4,H.trans x']
end
end
section
seal L4.run
noncomputable abbrev o8 (r:RH)(q:Nat):Tw:=[.int r.1.gap,.int r.1.len,.int r.1.aK,.int r.1.af,.ref q]
structure F7(unit:Int)(r:RH):Prop where
 g1:unit<=r.1.gap
 g2:r.1.gap<8*unit
 l1:1<=r.1.len
 l2:r.1.len<=r.1.gap+2
 d1:1<=r.1.aK
 d2:r.1.aK<=r.1.gap
 t1:0<=r.1.af
 t2:r.1.af<=3*r.1.gap/2
 ok:jd r.1.len r.2
def J1m{ws:Tj}(j:∀x∈ws,cD x):lP (ws.map PyData.str)=Zl:=by
 induction ws with|nil=>rfl|cons x xs B=>
  have q:=j x<|ZA ..;have e:iD (.str x)=Zl:=by simp![iD];unfold PyData.strOk;rw[<-Array.all_toList,pN];intro c k;have:=q.2.2 c k;lia
  rw[eP,lP,e,B λy m=>j y<|Zq _ m];rfl
section
variable{k:Nat}{h:IH}
def Jnq{ws:Tj}(D:h[W]?=M (.lst<|ws.map .str))(E:∀x∈ws,cD x)(C:h[j]?=M (.lst [])):eL (.ref W) (.ref j) h=.ok (.bl (!ws.isEmpty)) h:=by
 have k:toD h 6 (.ref W)=M (.list<|ws.map PyData.str):=by
  rw[XY D,yk (g:=λv=>match v with|.str x=>.str x|_=>.none) λx hx=>?_]
  .simp
  .let#[y,_,rfl]:=ZS.mp hx;rfl
 have B:toD h 6 (.ref j)=M (.list []):=by rw[XY C];rfl
 have m:QH (.ref W) (.ref j) h=M ws.isEmpty:=by unfold QH;rw[k,B];dsimp only;rw[if_pos #[by rw[iD];show J1m E,by rw[iD,lP]],lQ];cases ws with|nil=>rw[zh,qt];rfl|cons a H=>rw[eP,qt];rfl;all_goals intros;simp_all
 unfold eL;have F:VS (.ref W) (.ref j)=Z:=rfl;rw[F];dsimp only;rw[m]
def pk(xs:To)(hn:(xs.length:Int)=n)(h0:0<n):∃x∈xs,bq (xs.map IV.int) (y%n)=M (.int x):=by have a:=gm y (b:=n)<|iA h0;have b:=iN y h0;have l:(y%n).toNat<xs.length:=(Int.toNat_lt a).mpr<|ZR b<|dP hn.symm;show#[xs[(y%n).toNat],Z6 l,B5 a 03]
def Jwn(hu:1<=unit)(hu2:unit<=10^40)(hW:h[W]?=M (.lst<|ws.map .str))(hw:∀x∈ws,cD x)(nd:ws.Nodup)(V:ws=[]\/ws.length=3):
  WR (Df (k+2) [.int c,.int unit,.ref W] h) λv h'=>Ex h h'/\∃r q,F7 unit r/\v=.tup (o8 r q)/\h.length<=q/\h'[q]?=M (.lst<|r.2.map az)/\(ws=[]->r.2=[]):=by
 have hb:=Jx;rw[Jln];calc ak<|ae<|ao<|xb<|Jf (ag rfl rfl)<|WR.mono (Jt9 (k:=k) (h:=h) c 15 01) ?_;rintro _ h1 ⟨i,xs,rfl,_,D,lx,hx,x1⟩;have at_:∀n:Nat,n<15->∃x,0<=x/\bq (xs.map IV.int) (n:Int)=M (.int x):=λn hn=>#[xs[n],(hx _<|Z6 _).1,JI<|by rw[ZI,Zh<|Zb hn<|Zg lx.symm];rfl]
 let#[y0,z0,e0]:=at_ 0 01;let#[y1,z1,e1]:=at_ 1 01;let#[R,z2,e2]:=at_ 2 01;let#[y3,z3,e3]:=at_ 3 01;let#[E,z4,e4]:=at_ 4 01;let#[y5,z5,e5]:=at_ 5 01;let#[y6,z6,e6]:=at_ 6 01;let#[y7,z7,e7]:=at_ 7 01;clear at_ hx;have b1:unit*1<=unit*(1+y0%7):=E7 (m5<|gm _<|iA 01)<|Z2 06;have b2:unit*(1+y0%7)<=unit*7:=E7 (by(rw[m8];show iN _ 01))<|Z2 06;have b3:=gm y1 (b:=1+unit/2) 05;have b4:=iN y1 (b:=1+unit/2) 05;calc ae<|ao<|Jf (aO (eE rfl (aO rfl (bT (aQ rfl rfl D e0) rfl 01)) (.inr<|.inl 05))<|bT (aQ rfl rfl D e1) (aO rfl (JY rfl rfl 01 01))<|Z1 b3 b4) ?_;obtain⟨g,eg,g1,g2⟩:∃g,unit*(1+y0%7)+y1%(1+unit/2)=g/\unit<=g/\g<8*unit:=#[_,rfl,05,05];rw[eg];clear eg b1 b2 b3 b4;have j:(0:Int)<g:=ZR 06 06;have d1:=gm R (b:=g)<|iA j;have d2:=iN R j;let#[I,hd,ed]:=pk (n:=2) (y:=y3) [0,R%g] rfl 01;have hd:0<=I/\I<g:=by simp![ZC,eZ,or_false]at hd;show hd.elim (λh'=>#[(dP h'.symm),(Z1 (dP h') j)]) λh'=>#[(Z8 d1<|dP h'.symm),(Z1 (dP h') d2)]
 calc ae<|ao<|Jf (dE rfl (uT (ag rfl (bT (aQ rfl rfl D e2) rfl j)) rfl (bT (aQ rfl rfl (grow D) e3) rfl 01) ed)) ?_;have xA:Ex h1 (h1++[IX.lst [IV.int 0,IV.int<|R%g]]):=.one _ _;generalize h1++[IX.lst [IV.int 0,IV.int<|R%g]]=hA at xA ⊢;have C:=xA.get D;have t1:=gm E (b:=1+g/3)<|iA<|Z1 (k7 (Z2 j) 01)<|tR _ 01;have t2:=iN E (b:=1+g/3)<|Z1 (k7 (Z2 j) 01)<|tR _ 01;have t3:=gm E (b:=1+3*g/2)<|iA<|Z1 (k7 (Z2<|Int.mul_pos 01 j) 01)<|tR _ 01;have t4:=iN E (b:=1+3*g/2)<|Z1 (k7 (Z2<|Int.mul_pos 01 j) 01)<|tR _ 01;let#[lt,Y,el]:=pk (n:=4) (y:=y5) [0,0,E%(1+g/3),E%(1+3*g/2)] rfl 01;have Y:0<=lt/\lt<=3*g/2:=by simp![ZC,eZ,or_false]at Y;lia
 calc ae<|ao<|Jf (uT (jJ rfl rfl (bT (aQ rfl rfl C e4) (aO rfl (JY rfl rfl 01 01))<|Z1 t1 t2) (bT (aQ rfl rfl C e4) (aO rfl (JY (eE rfl rfl (.inl 01)) rfl 01 01))<|Z1 t3 t4)) rfl (bT (aQ rfl rfl (grow C) e5) rfl 01) el) ?_;have X:Ex hA (hA++[IX.lst [IV.int 0,IV.int 0,IV.int<|E%(1+g/3),IV.int<|E%(1+3*g/2)]]):=.one _ _;generalize hA++[IX.lst [IV.int 0,IV.int 0,IV.int<|E%(1+g/3),IV.int<|E%(1+3*g/2)]]=hB at X ⊢;have Q:=X.get C;let#[dv,hv,ev]:=pk (n:=4) (y:=y7) [1,2,4,9] rfl 01;have hv:0<dv/\dv<=9:=by simp![ZC,eZ,or_false]at hv;lia
 obtain⟨J,eM,M1,M2⟩:∃J:Int,(if g/dv>1 then g/dv else 1)=J/\1<=J/\J<=g:=by
  have:g/dv<=g:=Int.ediv_le_self _<|Z2 j;split
  .show#[_,rfl,Z2 06,this]
  .show#[_,rfl,05,06]
 have s1:=gm y6 (b:=J)<|iA 06;have s2:=iN y6 (b:=J) 06;calc ae<|ao<|Jf (aO rfl (bT (aQ rfl rfl Q e6) (cH (oZ rfl (JY rfl (uT (jJ rfl rfl rfl rfl) rfl (bT (aQ rfl rfl (grow Q) e7) rfl 01) ev) hv.1 (yj (b:=9) 05 01)))<|congrArg IV.int eM) 06)) ?_;generalize H:1+y6%J=len;have xC:Ex hB (hB++[IX.lst [IV.int 1,IV.int 2,IV.int 4,IV.int 9]]):=.one _ _;generalize hB++[IX.lst [IV.int 1,IV.int 2,IV.int 4,IV.int 9]]=F at xC ⊢;have B:=((x1.trans xA).trans X).trans xC;have lC:=B.len;have hiC:=(X.trans xC).get C;have P:Ex F (F++[IX.lst []]++[IX.lst []]):=(Ex.one _ _).trans<|.one _ _;have gE:(F++[IX.lst []]++[IX.lst []])[F.length]?=M (.lst []):=grow grown;have base:∀O:Tx,jd len O->F7 unit (#[#[⟨#[]⟩,g,len,g-I,lt],O]:RH):=λO ok=>#[g1,g2,by change 1<=len;show Z8 (m5 s1)<|dP H,by change len<=g+2;lia,by change 1<=g-I;lia,by change g-I<=g;show Int.sub_le_self _ hd.1,Y.1,Y.2,ok]
 have S:∀{U:aE}{a:E1},a U (F++[IX.lst []])=.ok (.ref W) (F++[IX.lst []])->Ji aM (Jc eL a<|J0 Je) U (F++[IX.lst []])=.ok (!ws.isEmpty) (F++[IX.lst []]++[IX.lst []]):=λea=>bh<|(aD ea<|cu rfl rfl).trans<|Jnq (P.get<|B.get hW) hw grown
 calc ae<|ao<|Jf (cu rfl rfl)<|ae ?_;rcases V with rfl|V
 .show aI (S rfl)<|ax<|aj<|Jf (fF rfl rfl) #[B.trans P,#[#[⟨#[]⟩,g,len,g-I,lt],[]],_,base [] #[03,03,λm n hm hn=>absurd hn 03],rfl,lC,gE,λ_=>rfl]
 .have ne:ws.isEmpty=Zm:=by cases ws with|nil=>simp at V|cons _ _=>rfl
  calc fG (cH (S rfl)<|by rw[ne];rfl)<|ao<|xb<|xb ?_;calc(YR ..).mpr<|Jf rfl (Jf rfl (Jf rfl ((xH ..).mpr #[_,P.get hiC,?_])));rw[show(M (8:Int))=M ((8:Nat):Int)from rfl,IG,<-List.map_drop];have xE:Ex (F++[IX.lst []]++[IX.lst []]) (F++[IX.lst []]++[IX.lst []]++[IX.lst<|(xs.drop 8).map IV.int]):=.one _ _;calc xb (Jf (ag rfl rfl)<|Jf rfl (WR.mono (Jvp (k:=k) grown (by rw[vK];show mP<|Zg lx.symm) (xE.get<|P.get<|B.get hW) V hw nd<|Z8 (m5 s1)<|dP H) ?_));rintro _ h3 ⟨q,O,rfl,hq,gq,ok,x3⟩;have l1:=(P.trans xE).len;show aj (Jf (fF rfl rfl) #[(B.trans<|P.trans xE).trans x3,#[#[⟨#[]⟩,g,len,g-I,lt],O],q,base O ok,rfl,Zb (Zb lC l1) hq,gq,λe=>by rw[e]at ne;cases ne])
end
end
section
seal L4.run
abbrev fJ(r:RH)(q:Nat):IV:=.tup<|.str r.1.name::o8 r q
structure bu(h:IH)(lo:Nat)(ys:Tw)(rs:Ua):Prop where
 len:ys.length=rs.length
 at_:∀(i:Nat) y r,ys[i]?=M y->rs[i]?=M r->∃q,y=fJ r q/\q≠lo/\h[q]?=M (.lst<|r.2.map az)
theorem bu.ym(k:i9 lo h h')(w:bu h lo ys rs):bu h' lo ys rs:=#[w.len,λi y r a b=>let ⟨q,e,n,g⟩:=w.at_ i y r a b;#[q,e,n,k _ _ n g]]
theorem bu.kp(k:Kp h h')(w:bu h lo ys rs):bu h' lo ys rs:=w.ym λ_ _ _ q=>k _ _ q
def bu.get(w:bu h lo ys rs){n:Nat}(e:rs[n]?=M r):∃q,ys[n]?=M (fJ r q)/\h[q]?=M (.lst<|r.2.map az):=by
 have hn:n<ys.length:=by rw[w.len];show(Zs.mp e).1
 let#[q,j,_,g]:=w.at_ n _ r (Zh hn) e;show#[q,by rw[Zh hn,j],g]
def bu.snoc{r:RH}(w:bu h lo ys rs)(n:q≠lo)(g:h[q]?=M (.lst<|r.2.map az)):bu h lo (ys++[fJ r q]) (rs++[r]):=by
 have j:=w.len;calc#[by simp[j],λi y s a b=>?_];by_cases D:i<ys.length
 .rw[ZU D]at a;rw[ZU<|jq 06 06]at b;show w.at_ i y s a b
 .have k:=(Zs.mp a).1;rw[ZM,pH]at k;obtain rfl:i=ys.length:=Z7 (Z5 k)<|ZH D;rw[jS<|Zk _,vn]at a;rw[j,jS<|Zk _,vn]at b;cases a;cases b;show#[q,rfl,n,g]
structure Dr(c unit:Int)(rs:Ua):Prop where
 u1:1<=unit
 u2:unit<=10^40
 f:∀r∈rs,F7 unit r
 nm:(rs.map λr=>r.1.name)=(cO rs.length).map (wd c)
def F7.to8(f:F7 unit r)(j:1<=unit)(hn:cD r.1.name):F8 unit r:=by have g1:=f.g1;have g2:=f.g2;have t2:=f.t2;show#[hn,f.g1,05,f.l1,f.d1,f.d2,f.t1,05,f.ok]
def Dr.gd(bE:Dr c unit rs)(hl:rs.length<=7):Gd unit rs:=by
 refine#[bE.u1,bE.u2,hl,λr m=>(bE.f r m).to8 bE.u1 ?_,?_]
 .have:r.1.name∈(cO rs.length).map (wd c):=by rw[<-bE.nm];show mX m
  let#[j,_,e]:=ZS.mp this;rw[<-e];show MA c j
 .rw[bE.nm,List.Nodup,tN];calc(tO).imp_of_mem λ{a b} ha B k e=>k ?_;show MB (by have:=fO.mp ha;show Zb (Zb this hl)<|Zd _ 19) (by have:=fO.mp B;show Zb (Zb this hl)<|Zd _ 19) e
def SQ(h:IH)(held:Bool)(v:IV)(h':IH):Prop:=Ex h h'/\∃S lo ys rs c unit,v=.ref S/\h.length<=S/\h'[S]?=M (.lst ys)/\bu h' lo ys rs/\Dr c unit rs/\rs.length<=5/\(held=Zm->∀r∈rs,r.2=[])
def yo(c:Int)(v:IV):IV:=match v with|.int q=>.str<|wd c q.toNat|_=>.aw
section
variable{k:Nat}{h:IH}
theorem MF(U)(h):Jc JK (eC<|.int 10) (eC<|.int 15) U h=.ok (.int<|10^15) h:=Js (by rw[YN,V8,V8,xD];show#[01,rfl,rfl])
theorem e40(U)(h):Jc JK (eC<|.int 10) (eC<|.int 40) U h=.ok (.int<|10^40) h:=rfl
def SmI(h hB:IH)(ns:To)(held:Bool)(x0 unit x1:Int)(W n:Nat)(U:aE)(h':IH):Prop:=∃ys rs g a b,h'=hB++.lst ys::g/\U=[M<|.cJ<|ns.map .int,M<|.bl held,M<|.int x0,M<|.int unit,M<|.int x1,M<|.ref W,M<|.ref hB.length,a,b]/\bu h' hB.length ys rs/\rs.length=n/\Dr (x1/7) unit rs/\(held=Zm->∀r∈rs,r.2=[])
def J1n(ns:To)(B:Bool):WR (Dg (k+4) [.cJ<|ns.map .int,.bl B] h) (SQ h B):=by
 have hb:=Jx;rw[Jm5];have c0:=yg (k:=k+2) (h:=h) ns 0 01;have c1:=λ(h:IH)=>yg (k:=k+2) (h:=h) ns 1 01;generalize ns.getD (m9 0) 0=S at c0;generalize ns.getD (m9 1) 0=D at c1;let#[UU,X,eU]:=pk (n:=4) (y:=S) [4,10^15,10^15,10^40] rfl 01;have X:0<UU/\UU<=10^40:=by simp![ZC,eZ,or_false]at X;rcases X with rfl|rfl|rfl|rfl<;>decide +kernel
 have u0:=gm (S/4) (b:=UU)<|iA X.1;have u1:=iN (S/4) X.1;have hx:S/4%UU<10^40:=ZR u1 X.2;have E:∀{U:aE}{P:IH},Jb '4' (Jb (Jc JK (eC<|.int 10)<|eC<|.int 15)<|Jb (Jc JK (eC<|.int 10)<|eC<|.int 15)<|Jb (Jc JK (eC<|.int 10)<|eC<|.int 40) Je) U P=.ok [IV.int 4,IV.int<|10^15,IV.int<|10^15,IV.int<|10^40] P:=λ{U P}=>jJ rfl (MF U P) (MF U P) (e40 U P);calc ak<|ae<|ao<|Jf (Jo (ag rfl rfl) c0)<|ae<|ao ?_;calc Jf (aO rfl (bT (JY rfl rfl 01 01) (uT E rfl (bT rfl rfl 01) eU) X.1)) ?_;calc ae<|ao<|Jf (Jo (ag rfl rfl)<|c1 _)<|ae<|ao<|Jf (cu rfl rfl)<|ae ?_;generalize hu:1+S/4%UU=H;have V:1<=H:=Z8 (m5 u0)<|dP hu;have Y:H<=10^40:=by clear eU;generalize (10:Int)^40=y at hx;lia
 have xA:Ex h (h++[IX.lst [IV.int 4,IV.int<|10^15,IV.int<|10^15,IV.int<|10^40]]++[IX.lst []]):=(Ex.one _ _).trans<|.one _ _;have gA:(h++[IX.lst [IV.int 4,IV.int<|10^15,IV.int<|10^15,IV.int<|10^40]]++[IX.lst []])[(h++[IX.lst [IV.int 4,IV.int<|10^15,IV.int<|10^15,IV.int<|10^40]]).length]?=M (.lst []):=grown;have R:∀(C:IH)(W:Nat)(Q:Tj),Ex h C->C[W]?=M (.lst<|Q.map .str)->(∀x∈Q,cD x)->Q.Nodup->(Q=[]\/Q.length=3)->(B=Zm->Q=[])->∀N:aE->IH->Prop,
   WS (Md (k+3) [M<|.cJ<|ns.map .int,M<|.bl B,M<|.int S,M<|.int H,M<|.int D,M<|.ref W,Z,Z,Z] C) N (SQ h B):=by
  intro C W Q xB gW hw nd lw P N;obtain⟨m,em⟩:∃m:Nat,D%6=m:=#[(D%6).toNat,m7 (tT _)<|dP<|sC<|gm _<|iA 01];calc ae<|ao<|Jf (cu rfl rfl)<|ae<|mI (n:=m) (cH (bT rfl rfl 01)<|congrArg IV.int em) 05 ?_;refine JZ (SmI h C ns B S H D W) (λ_ _ _ _=>trivial) ?_ ?_ #[[],[],[],Z,Z,rfl,rfl,#[rfl,λi y r a b=>by simp at a],rfl,#[V,Y,03,rfl],03]
  .rintro n hn _ _ ⟨F,rs,g,a,b,rfl,rfl,w,ln,bE,hr⟩;rw[QA];rw[JQ]at hn;have hn6:n<6:=05;rw[show(0+(n:Int))=(n:Int) by show m8 _ _];have gW':(C++IX.lst F::g)[W]?=M (.lst<|Q.map .str):=grow gW;calc d4 rfl (ae<|ao<|xb<|Jf (ja (aO (Jo (ag rfl (aO rfl rfl))<|yg (k:=k+2) ns (2+(n:Int))<|iM _)<|eE rfl rfl (.inl 01)) rfl rfl)<|WR.mono (Jwn (k:=k+1) V Y gW' hw nd lw) ?_);rintro _ h3 ⟨⟨I,rfl⟩,r,q,f,rfl,hq,gq,hz⟩;have e3:C++IX.lst F::g++I=C++IX.lst F::(g++I):=03;calc Qg (QD (i:=C.length) rfl (by rw[e3];show Jz) VD (xb<|xb<|oX<|xb<|xb<|Jf (ag (JY rfl rfl 01 01) rfl)<|WR.mono (MD (k:=k+2) (D/7) n) ?_));rintro _ _ ⟨rfl,J,rfl⟩;have e4:C++IX.lst F::g++I++J=C++IX.lst F::(g++I++J):=03;have kB:i9 C.length (C++IX.lst F::g) (C++IX.lst F::(g++I++J)):=λj o _ z=>by rw[<-e4];show grow<|grow z
   have w4:=w.ym kB;have gq4:(C++IX.lst F::(g++I++J))[q]?=M (.lst<|r.2.map az):=by rw[<-e4];show grow gq
   have hq':q≠C.length:=by rw[ZM,ji]at hq;lia
   have ly:F.length<=6:=by have:=w.len;show Zo<|Zb (Zc (Zb (Zg this)<|Zg ln) 1) hn6
   rw[e4];have ea:Jr (.tup [.str<|wd (D/7) n]) (.tup<|o8 r q) (C++IX.lst F::(g++I++J))=.ok (fJ #[{r.1 with name:=wd (D/7) n},r.2] q) (C++IX.lst F::(g++I++J)):=by change(if [IV.str<|wd (D/7) n]≠[]/\o8 r q≠[]/\[IV.str<|wd (D/7) n].length+(o8 r q).length<=sizeLine then Res.ok (IV.tup<|[IV.str<|wd (D/7) n]++o8 r q) (C++IX.lst F::(g++I++J))else .stuck)=_;rw[if_pos #[03,03,by simp;show fU _ _]];rfl
   calc xb (Jf rfl (Jf rfl #[by change(1:Nat)<=_;show mR 06,xb<|Jf rfl (Jf ea<|xb<|Jf rfl (Jf rfl (jc Jz (Zb (Zd _ 999994)<|Zb (Zc (Zc ly 1) 999994) hb) ?_)))]));rw[QS];refine#[F++[fJ #[{r.1 with name:=wd (D/7) n},r.2] q],rs++[#[{r.1 with name:=wd (D/7) n},r.2]],g++I++J,_,_,rfl,rfl,?_,by simp[ln],#[V,Y,?_,?_],?_]
   .have kC:i9 C.length (C++IX.lst F::(g++I++J)) (C++IX.lst (F++[fJ #[{r.1 with name:=wd (D/7) n},r.2] q])::(g++I++J)):=λj o hj z=>by rw[<-QS (IX.lst F),iy<|ZV hj];show z
    show(w4.ym kC).snoc hq'<|kC _ _ hq' gq4
   .intro s O;rw[ZQ,ZE]at O;rcases O with O|rfl
    .show bE.f s O
    .show#[f.g1,f.g2,f.l1,f.l2,f.d1,f.d2,f.t1,f.t2,f.ok]
   .rw[j9,bE.nm,ZM,pH,zf,j9,ln];rfl
   .intro z s O;rw[ZQ,ZE]at O;rcases O with O|rfl
    .show hr z s O
    .show hz<|P z
  .rintro _ _ ⟨F,rs,g,a,b,rfl,rfl,w,ln,bE,hr⟩;rw[JQ]at ln;have:=xB.len;show aj<|Jf rfl #[xB.trans<|.cons _ _ _,_,_,F,rs,D/7,H,rfl,this,Jz,w,bE,05,hr]
 cases B with|false=>show aI (bH rfl)<|ax<|R _ _ [] xA gA 03 03 (.inl rfl) (λ_=>rfl) _|true=>
  refine fG (bH rfl) (ao<|WR.mono (Qt (h:=h++[IX.lst [IV.int 4,IV.int<|10^15,IV.int<|10^15,IV.int<|10^40]]++[IX.lst []]) (xs:=aZ 0 3) (bK:=λ_=>True) (f:=yo<|D/5) ?_ (by rw[JQ];show fU _ _) (λ_ _=>trivial) ?_) ?_)
  .rw[Vs];calc Jf (ah rfl) ?_;rw[Ye];show#[01,rfl,rfl,rfl]
  .intro x hx h2 q;let#[n,hn,rfl]:=gG.mp hx;rw[QA,show(0+(n:Int))=(n:Int) by show m8 _ _];unfold Mc;calc xb<|Jf (ag (JY rfl rfl 01 01) rfl)<|WR.mono (MD (k:=k+2) (D/5) n) ?_;rintro _ h3 ⟨rfl,x3⟩;show#[by simp[yo],x3]
  .rintro _ _ ⟨rfl,g,rfl⟩;have em:(aZ 0 3).map (yo<|D/5)=((cO 3).map<|wd<|D/5).map IV.str:=by
    refine kZ (by rw[Zn,JQ,Zn,Zn,mY];rfl) λi h1 h2=>?_
    rw[ZN,QA,ZN,ZN,qm];simp[yo]
   rw[em];refine R _ _ ((cO 3).map<|wd<|D/5) (xA.trans<|.cons _ _ _) Jz (λx hx=>?_) ?_ (.inr 03) (λz=>by cases z) _
   .let#[j,_,rfl]:=ZS.mp hx;show MA _ j
   .rw[List.Nodup,tN];calc(tO (n:=3)).imp_of_mem λ{a b} ha hb hne e=>hne ?_;show MB (by have:=fO.mp ha;show jo 06) (by have:=fO.mp hb;show jo 06) e
end
end
section
seal L4.run L4.WS
section
variable{k:Nat}{h h1:IH}{U:aE}
def J15(e:o U h=.ok (.ref i) h1)(hl:h1[i]?=M (.aV kvs))(j:dN "dict" m n=M g):WR (Ju P m n o a U h) Q=WR (a U h1) λO h2=>WR (g (.ref i) O h2) Q:=by
 unfold Ju;rw[e];have D:VI (.ref i) h1=Zm:=by simp[VI,hl]
 have k:pZ (.ref i) h1="dict":=by simp[pZ,hl]
 dsimp only;rw[D,k,j];dsimp only;rw[if_neg Zz];unfold qQ;rw[e,J8,Yd];have:dX "dict" (.ref i) h1=Zl:=by simp[dX,hl]
 rw[if_pos this,J8]
theorem Jq7:dN "dict" "setdefault" 2=M VT:=02
def Jxl(D:h[i]?=M (.aV kvs))(e:aW kvs (.inr x)=M w):WR (VT (.ref i) [.str x,v] h) Q=Q w h:=by unfold VT;simp![D,eS,e];rfl
def Jxk(D:h[i]?=M (.aV kvs))(e:aW kvs (.inr x)=Z)(hl:kvs.length<sizeLine):WR (VT (.ref i) [.str x,v] h) Q=Q v (h.set i<|.aV<|kvs++[(.inr x,v)]):=by unfold VT;simp![D,eS,e,hl];rfl
theorem J68(ea:a U h=.ok (.ref i) h1)(g:h1[i]?=M (.aV kvs)):aR (aP Xp) (Jb a Je) U h=.ok (.int kvs.length) h1:=(eN<|ah ea).trans (by change Xp (.ref i) h1=_;unfold Xp;simp![g])
end
section
variable{k:Nat}{h:IH}
theorem MG:(([("works",a)]:Wn)).lookup ("size":Str)=Z:=02
theorem MH(hD:h[bE]?=M (.ins "Duty"<|o6 O)):C9 (k+1) [.ref bE] h=.ok (.int O.length) h:=Js (by rw[Jlb];show ak<|aj<|Jf ((eN<|ah<|au rfl hD o7).trans rfl) #[rfl,rfl])
def Jmt(d:cF h bE rs)(hl:rs.length<=12)(X:∀r∈rs,r.2.length<=6):
  WR (CL (k+2) [.ref bE] h) λv h'=>∃i kvs,v=.ref i/\h'[i]?=M (.aV kvs)/\(kvs=[]↔∀r∈rs,r.2=[])/\Ex h h':=by
 have hb:=Jx;let#[O,I,w]:=d;have Y:=w.len;rw[Jm1];calc ak<|ae<|ao<|Jf rfl (ae<|mI (n:=O.length) (f9 rfl (grow I) MG (Ml _) rfl (MH<|grow I)) (Zb (Zb (Zc (Zg Y) 1)<|Zc hl 1)<|Zd _ 999987) ?_);refine JZ (λn U h'=>∃kvs g a b,h'=h++IX.aV kvs::g/\U=[M<|.ref bE,M<|.ref h.length,a,b]/\kvs.length<=6*n/\(kvs=[]↔∀r∈rs.take n,r.2=[])) (λ_ _ _ _=>trivial) ?_ ?_ #[[],[],Z,Z,rfl,rfl,03,03]
 .rintro n hn _ _ ⟨kvs,g,a,b,rfl,rfl,R,D⟩;rw[QA];rw[JQ]at hn;have C:n<rs.length:=jq 06 06;have en:(0:Int)+(n:Int)=n:=m8 _ _;let#[j,W,J]:=w.get<|Zh C;have V:=JI W;have P:=X _<|Z6 C;rw[pG C];generalize rs[n]=r at J P;rw[en];have F:Ex h (h++IX.aV kvs::g):=.cons _ _ _;have ed:Ju (pg<|k+1) "work" 1 'a' (Jb 'c' Je) [M<|IV.ref bE,M<|IV.ref h.length,M<|IV.int (n:Int),b] (h++IX.aV kvs::g)=.ok (.ref j) (h++IX.aV kvs::g):=by show f9 rfl (F.get I) DS (DA _) (ah rfl) (DT (F.get I) V)
  calc d4 rfl (dO ?_);rw[JC];calc Jf (f9 ed (F.get J) Ms (Mj _) rfl (Mt<|F.get J))<|(JM _).mpr #[_,grown,?_];refine JZ (λm U h'=>∃B H,h'=h++IX.aV B::(g++[IX.lst<|r.2.map az])/\U=[M<|.ref bE,M<|.ref h.length,M<|.int (n:Int),H]/\B.length<=6*n+m/\(B=[]↔kvs=[]/\r.2.take m=[])) ?_ ?_ ?_ #[kvs,b,by rw[iz,j8],rfl,R,03]
  .rintro _ _ _ ⟨B,H,rfl,_⟩;rw[show h++IX.aV B::(g++[IX.lst<|r.2.map az])=(h++IX.aV B::g)++[IX.lst<|r.2.map az] by rw[iz,j8],
    show(h++IX.aV kvs::g).length=(h++IX.aV B::g).length by simp]
   show grown
  .rintro m hm _ _ ⟨B,H,rfl,rfl,Q,E⟩;have hm':m<r.2.length:=by simpa using hm
   have S:¬(kvs=[]/\r.2.take (m+1)=[]):=λz=>by have:=congrArg List.length z.2;rw[pM,ze]at this;lia
   rw[ZN];generalize r.2[m]=a at *;calc d4 rfl (Qg ?_);rw[J15 (i:=h.length) rfl Jz Jq7];calc Jf (ag (aq rfl rfl Qa) rfl) ?_;cases ev:aW B (.inr a.1)with|some w'=>rw[Jxl Jz ev];show#[B,_,rfl,rfl,nK 06,iff_of_false (λz=>by rw[z]at ev;cases ev) S]|none=>rw[Jxk Jz ev 05,QS];show#[_,_,rfl,rfl,by rw[ZM,pH];show nJ 06,iff_of_false 03 S]
  .rintro _ _ ⟨B,H,rfl,rfl,Q,E⟩;rw[Zn]at Q E;rw[lJ<|Zk _]at E;calc#[B,_,_,_,rfl,rfl,05,E.trans #[λz x hx=>?_,λz=>#[D.mpr λx hx=>z x<|iL _ hx,z r 03]]];rcases ZQ.mp hx with hx|hx
   .show D.mp z.1 x hx
   .rw[ZE.mp hx];show z.2
 .rintro _ _ ⟨kvs,g,a,b,rfl,rfl,R,D⟩;rw[JQ,lJ<|Zg<|Eq.symm 06]at D;show aj<|Jf rfl #[_,kvs,rfl,Jz,D,.cons _ _ _]
def MI(d:cF h bE rs)(hl:rs.length<=12)(C:∀r∈rs,r.2.length<=6):
  WE (Yn (k+3) [.ref bE] h) (λ_ h'=>(∀r∈rs,r.2=[])/\Ex h h') λn h'=>(¬ ∀r∈rs,r.2=[])/\h'[n]?=M (.exc "HoldsThings" [])/\Ex h h':=by
 have F:=Jx;rw[Jgg];calc IW ?_;rw[LN,Ci];let#[_,H,D,i,m,rfl,E,j,B]:=(Jmt d hl C).eq;refine WE.of<|Jf (fT (J68 (Jo (ah rfl) D) E) rfl)<|cX (λq=>?_) λq=>?_
 .rw[IT];show WE.of (Jf (ah rfl) #[by change 1<=sizeLine;show mR 06,#[_,_,grown],λz=>by rw[j.mpr z]at q;simp at q,grown,B.trans<|.one _ _])
 .rw[Cf];show#[j.mp (by cases m with|nil=>rfl|cons a b=>show absurd (show(0:Int)<((a::b).length:Int) by rw[ji];omega) q),B]
theorem Jnm(d:cF h bE rs)(hl:rs.length<=12)(j:∀r∈rs,r.2=[]):WR (Yn (k+3) [.ref bE] h) λ_ h'=>Ex h h':=WE.wr (WE.mono (MI d hl λr m=>by rw[j r m];show ZF _) (λ_ _ z=>z.2) λ_ _ z=>z.1 j)
abbrev gf(bE:Nat):Wn:=[("duty",.ref bE)]
theorem op0:bG "duty" a ([]:Wn)=([("duty",a)]:Wn):=02
theorem MJ:(gf bE).lookup ("duty":Str)=M (.ref bE):=02
theorem qlr:(gf bE).lookup ("rank_of":Str)=Z:=02
theorem qlh:(gf bE).lookup ("holds":Str)=Z:=02
def eW(h:IH)(kind:Int)(bD:Nat)(rs:Ua):Prop:=∃bE,cF h bE rs/\h[bD]?=M (.ins "ByDue"<|gf bE)
theorem eW.kp(k:Kp h h')(o:eW h kind bD rs):eW h' kind bD rs:=let ⟨j,d,b⟩:=o;#[j,d.kp k,k _ _ b]
theorem Jqd(j:h[bD]?=M (.ins c [])):CV (k+1) [.ref bD,.ref bE] h=.ok .aw (h.set bD<|.ins c<|gf bE):=Js (by rw[Jjd];show ak<|Qu rfl rfl j 01 #[rfl,by rw[op0]])
def MK(j:e U h=.ok (.ref bE) h)(d:cF h bE rs)(hl:rs.length<=12)(m:∀r∈rs,r.2=[]):WR (Qx "ByDue" (Yg<|k+4) [] (Jb e Je) U h) λv h'=>∃bD,v=.ref bD/\Ex h h'/\eW h' 0 bD rs:=by
 calc(Yc ..).mpr<|Jf (ah j) ?_;change WR (Yg (k+4) [.ref h.length,.ref bE]<|h++[.ins "ByDue" []]) _;rw[Jjc];let#[_,_,C,g,rfl]:=(Jnm (d.kp (Ex.one h<|IX.ins "ByDue" []).kp) hl m).eq;have B:(h++[IX.ins "ByDue" []]++g)[h.length]?=M (.ins "ByDue" []):=grow grown;calc ak<|ae<|Qg<|Jf (Jo (ah rfl) C)<|Qg<|Jf (Jo (ag rfl rfl)<|Jqd B) #[rfl,?_];have e:(h++[IX.ins "ByDue" []]++g).set h.length (.ins "ByDue"<|gf bE)=h++.ins "ByDue" (gf bE)::g:=by rw[iz,j8,mZ,QS]
 rw[e];show#[_,rfl,.cons _ _ _,bE,d.kp (Ex.cons _ _ _).kp,Jz]
end
end
section
variable{k:Nat}{h:IH}
def DZ(kvs)(k k')(v):aW (putD kvs k v) k'=if k=k' then M v else aW kvs k':=by
 unfold putD;have j:∀l:Wo,(l.any λD=>decide (D.1=k))=(aW l k).isSome:=by
  intro l;induction l with|nil=>rfl|cons p r C=>
   rw[sk,C];by_cases e:p.1=k
   .rw[V7 e];simp[e]
   .rw[Vq e];simp[e]
 split
 .rename_i ha;have B:∀l:Wo,aW (l.map λD=>if D.1=k then(D.1,v)else D) k'=if k=k' then(if (aW l k).isSome then M v else Z)else aW l k':=by
   intro l;induction l with|nil=>by_cases e:k=k'<;>simp[aW]|cons p r C=>
    rw[eP];by_cases e:p.1=k
    .rw[if_pos e];by_cases m:k=k'
     .rw[V7 (by rw[<-m];show e),if_pos m,V7 e];rfl
     .rw[Vq (by rw[e];show m),C,if_neg m,if_neg m,Vq<|by rw[e];show m]
    .rw[if_neg e];by_cases m:p.1=k'
     .have:¬k=k':=λz=>e<|m.trans z.symm
      rw[V7 m,if_neg this,V7 m]
     .rw[Vq m,C,Vq e,Vq m]
  rw[B,<-j,ha];simp
 .rename_i ha;have hn:aW kvs k=Z:=by have:=j kvs;cases q:aW kvs k with|none=>rfl|some z=>rw[q]at this;show absurd this ha
  have B:∀l:Wo,aW (l++[(k,v)]) k'=match aW l k' with|some w=>M w|none=>if k=k' then M v else Z:=by
   intro l;induction l with
   |nil=>
    by_cases e:k=k'
    .rw[mZ,V7 e,if_pos e];rfl
    .rw[mZ,Vq e,if_neg e];rfl
   |cons p r C=>
    by_cases e:p.1=k'
    .rw[j8,V7 e,V7 e]
    .rw[j8,Vq e,Vq e,C]
  rw[B];by_cases e:k=k'
  .subst e;rw[hn,if_pos rfl]
  .rw[if_neg e,if_neg e];cases aW kvs k'<;>rfl
def ML(D:h[i]?=M (.aV kvs)):WR (hJ (.int x) (.ref i) h) Q=Q (.bl (aW kvs<|.inl x).isSome) h:=by unfold hJ;simp![D];rfl
def D0(D:h[i]?=M (.aV kvs))(e:aW kvs (.inl x)=M v):WR (VO (.ref i) (.int x) h) Q=Q v h:=by unfold VO;simp![D,eS,e];rfl
def D1(o i)(v):WS (hU o i v U h) N R=WR (o U h) λj h1=>WR (i U h1) λk h2=>WS (YF j k v U h2) N R:=by unfold hU;rw[Vt];congr 1;funext j h1;rw[Vt]
def D2(D:h[i]?=M (.aV kvs))(hl:kvs.length<sizeLine):WS (YF (.ref i) (.int x) v U h) N R=N U (h.set i<|.aV<|putD kvs (.inl x) v):=by unfold YF;simp![D,hl];rfl
end
section
seal L4.run
theorem MM(a b c d e f)(x0 x1 x2 x3 x4 x5)(U)(h):iF 6 (gC (aF a)<|gC (aF b)<|gC (aF c)<|gC (aF d)<|gC (aF e)<|gC (aF f) gN) (.tup [x0,x1,x2,x3,x4,x5]) U h=.next ((((((U.set a<|M x0).set b<|M x1).set c<|M x2).set d<|M x3).set e<|M x4).set f<|M x5) h:=rfl
theorem MN:bq (x::y::z::u::v::w::xs) 5=M w:=JI rfl
structure Cm where
 at_:Nat
 ba:Int
 af:Int
 len:Int
abbrev _root_.Ub:=List Cm
noncomputable abbrev aB (c:Cm):IV:=.tup [.int c.at_,.int c.ba,.int c.af,.int c.len]
structure yp(rs:Ua)(c:Cm):Prop where
 at_:c.at_<rs.length
 ba:0<=c.ba
 l0:0<=c.af
 l1:c.af<=(rs[c.at_]).1.af
 n1:1<=c.len
 n2:c.len<=(rs[c.at_]).1.len
structure cV(rs:Ua)(cs:Ub):Prop where
 ok:∀c∈cs,yp rs c
 c8:∀(i j:Nat)(a b:Cm),i<j->cs[i]?=M a->cs[j]?=M b->a.at_=b.at_->∀r,rs[a.at_]?=M r->a.ba+r.1.gap<=b.ba
def X8(k:Kp h h'):Ex h h':=by
 calc#[h'.drop h.length,pL λi=>?_];by_cases D:i<h.length
 .rw[ZU D,Zh D];show k i _<|Zh D
 .rw[jS<|ZH D,zb];congr 1;show Z7 (Zg (jh<|ZH D).symm)<|jg (ZH D)<|Zk _
end
theorem MO(f):∀(n j:Nat),j<n->QF f n<=f j
 |0,j,h=>absurd 06<|mT _
 |1,j,h=>by
  have:j=0:=by show rG 06
  subst this;show ZO _
 |n+2,j,h=>by
  rw[A8 f ((iI _):0<n+1)];by_cases e:j=n+1
  .lia
  .have:=MO f (n+1) j<|ZX (Z5 h) e;split<;>(first|show Z8 (Z2 06) 06|assumption|lia)
theorem MP(f):∀(n:Nat),0<n->∃j,j<n/\QF f n=f j
 |0,h=>absurd 06<|jP _
 |1,_=>#[0,06,rfl]
 |n+2,_=>by
  rw[A8 f ((iI _):0<n+1)];let#[j,k,e]:=MP f (n+1)<|iI _;split
  .lia
  .show#[j,jO 06,e]
section
variable{h:IH}
def J2c(D:h[i]?=M (.lst<|ns.map .int))(hn:ns≠[]):WR (XF (.ref i) h) Q=Q (.int<|QF (λi=>ns.getD i 0) ns.length) h:=by unfold XF;simp![D,Qz];rw[if_neg hn];rfl
end
section
seal L4.run L4.WS
section
variable{k:Nat}{h:IH}
def dF(ea:a U h=.ok x h1)(j:b U h1=.ok xs h2):Jb a b U h=.ok (x::xs) h2:=by change(a U h).bind (λx h1=>(b U h1).bind λxs h2=>.ok (x::xs) h2)=_;rw[ea];change(b U h1).bind _=_;rw[j];rfl
theorem yq(hD:h[bE]?=M (.ins "Duty"<|o6 O))(m:o U h=.ok (.ref bE) h)(C:e U h=.ok (.int n) h)(B:bq O n=M (.ref j)):Ju (pg<|k+1) "work" 1 o (Jb e Je) U h=.ok (.ref j) h:=f9 m hD DS (DA _) (ah C)<|DT hD B
def uX(hd:cF h bE rs)(ha:c.at_<rs.length):Xv (k+2) [.ref bE,aB c] h=.ok (.int<|c.ba+(rs[c.at_]).1.aK) h:=by let#[O,B,w]:=hd;let#[j,m,D]:=w.get<|Zh ha;have C:=JI m;calc Js ?_;rw[Jr8];show ak<|aj<|Jf (aO (aq rfl rfl JN)<|au (yq B rfl (aq rfl rfl Qa) C) D o4) #[rfl,rfl]
theorem Ju4(hd:cF h bE rs)(j:h[bD]?=M (.ins "ByDue"<|gf bE))(ha:c.at_<rs.length):CZ (k+3) [.ref bD,aB c,.int d] h=.ok (.int<|c.ba+(rs[c.at_]).1.aK) h:=Js<|by rw[Jez];show ak<|aj<|Jf (Jo (ag (au rfl j MJ) rfl)<|uX hd ha) #[rfl,rfl]
theorem Jnj:CW (k+1) [.ref bD,v,w] h=.ok (.bl Zm) h:=Js<|by rw[Jhb];show ak<|aj<|Jf rfl #[rfl,rfl]
def Ys(kind:Int)(rs:Ua)(c:Cm)(d:Int):Int:=c.ba+(rs.getD c.at_ rd).1.aK
def Yr(kind:Int)(rs:Ua)(c:Cm)(d:Int):Bool:=Zm
def Q9{rs:Ua}(hn:n<rs.length):rs.getD n rd=rs[n]:=by simp_all
def D3(o:eW h kind bD rs):∃Du,cF h Du rs/\∀(e:E1) (U:aE),e U h=.ok (.ref bD) h->Jm "duty" e U h=.ok (.ref Du) h:=by let#[m,hd,k]:=o;show#[m,hd,λe U j=>au j k MJ]
def Jpn(o:eW h kind bD rs)(m:oe U h=.ok (.ref bD) h)(h1:e1 U h=.ok (aB c) h)(h2:e2 U h=.ok (.int d) h)(ha:c.at_<rs.length)(l6:∀r∈rs,r.2.length<=6):WR (Ju (pg<|k+3) "rank_of" 2 oe (Jb e1<|Jb e2 Je) U h) λv h'=>v=.int (Ys kind rs c d)/\Ex h h':=by let#[B,hd,j]:=o;show Xd m j qlr (Jey _) (Jf (ag h1 h2)<|Jf (Ju4 hd j ha) #[by rw[Ys,Q9 ha],.refl _])
def Jmh(o:eW h kind bD rs)(j:oe U h=.ok (.ref bD) h)(h1:e1 U h=.ok (aB c) h)(h2:e2 U h=.ok (.int d) h)(ha:c.at_<rs.length)(l6:∀r∈rs,r.2.length<=6):WR (Ju (pg<|k+3) "holds" 2 oe (Jb e1<|Jb e2 Je) U h) λv h'=>v=.bl (Yr kind rs c d)/\Ex h h':=by let#[B,hd,m]:=o;show Xd j m qlh (Jg7 _)<|Jf (ag h1 h2)<|Jf Jnj #[rfl,.refl _]
end
end
def cd:Cm:=#[0,0,0,0]
def cY(kind:Int)(rs:Ua)(cs:Ub)(ds:To)(n:Nat):To:=[Ys kind rs (cs.getD n cd)<|ds.getD n 0,if Yr kind rs (cs.getD n cd) (ds.getD n 0)=Zl then 0 else 1,(n:Int)]
def rA(kind:Int)(rs:Ua)(cs:Ub)(ds:To)(v:IV):To:=match v with|.int x=>cY kind rs cs ds x.toNat|_=>[0,0,0]
theorem MQ:∀{a b:To},a.length=b.length->da a b=Zm->da b a=Zm->a=b
 |[],[],_,_,_=>rfl
 |a::as,b::bs,l,h1,h2=>by
  unfold da at h1 h2;by_cases e:a=b
  .subst e;rw[if_pos rfl]at h1 h2;rw[MQ (by simpa using l) h1 h2]
  .lia
 |[],_::_,l,_,_=>by simp at l
 |_::_,[],l,_,_=>by simp at l
section
variable{k:Nat}{h:IH}
def J14(hx:xs≠[])(j:ys≠[])(hl:xs.length+ys.length<=sizeLine):WR (Jr (.tup xs) (.tup ys) h) Q=Q (.tup<|xs++ys) h:=by change WR (if xs≠[]/\ys≠[]/\xs.length+ys.length<=sizeLine then .ok (.tup<|xs++ys) h else .stuck) Q=_;rw[if_pos #[hx,j,hl]];rfl
theorem qls:(gf bE).lookup ("standing":Str)=Z:=02
theorem qlp:(gf bE).lookup ("pick":Str)=Z:=02
abbrev D5(kind:Int)(rs:Ua)(c:Cm)(d:Int):IV:=.tup [.int<|Ys kind rs c d,.int (if Yr kind rs c d=Zl then 0 else 1)]
section
seal L4.run L4.WS
def Jno{c:Cm}{d:Int}(o:eW h kind bD rs)(ha:c.at_<rs.length)(l6:∀r∈rs,r.2.length<=6):WR (CY (k+4) [.ref bD,aB c,.int d] h) λv h'=>v=D5 kind rs c d/\Ex h h':=by have B:=Jx;rw[Jed];calc ak<|aj<|oX<|xb<|WR.mono (Jpn (k:=k) (c:=c) (d:=d) o rfl rfl rfl ha l6) ?_;rintro _ C ⟨rfl,j⟩;calc xb<|xb<|oW<|xb<|WR.mono (Jmh (k:=k) (c:=c) (d:=d) (o.kp j.kp) rfl rfl rfl ha l6) ?_;rintro _ D ⟨rfl,m⟩;have x:=j.trans m;unfold D5;have l2:(2:Nat)<=sizeLine:=fU _ _;cases Yr kind rs c d with|true=>show#[λ_=>#[l2,rfl,x],λz=>by cases z]|false=>show#[(λz=>by cases z),λ_=>#[l2,rfl,x]]
def Jgs{kind:Int}{bD:Nat}{d:Int}{j e1 m:E1}(o:eW h kind bD rs)(C:j U h=.ok (.ref bD) h)(h1:e1 U h=.ok (aB c) h)(h2:m U h=.ok (.int d) h)(ha:c.at_<rs.length)(l6:∀r∈rs,r.2.length<=6):WR (Ju (pg<|k+4) "standing" 2 j (Jb e1<|Jb m Je) U h) λv h'=>v=D5 kind rs c d/\Ex h h':=by have so:=Jno (k:=k) (d:=d) o ha l6;let#[D,hd,B]:=o;show Xd C B qls (Jeb _)<|Jf (ag h1 h2) so
def J03{bD R W N:Nat}{ps:Tp}{ds:To}(h0:h[0]?=M (.tab "Order.pick"))(o:eW h kind bD rs)(l6:∀r∈rs,r.2.length<=6)(O:∀c∈cs,c.at_<rs.length)
  (H:h[R]?=M (.lst<|cs.map aB))(P:h[W]?=M (.lst (ps.map λp:Nat=>.int p)))(gN:h[N]?=M (.lst<|ds.map .int))(ld:ds.length=cs.length)(ne:ps≠[])(hp:∀p∈ps,p<cs.length):
  WR (xX (k+5) [.ref bD,.ref R,.ref W,.ref N] h) λv h'=>∃p∈ps,v=.int (p:Int)/\(∀p'∈ps,da (cY kind rs cs ds p') (cY kind rs cs ds p)=Zm)/\Ex h h':=by
 have Q:=Jx;rw[Jje];calc ak<|aj ?_;rw[J2b h0 rfl];refine WR.mono (Juo (kf:=rA kind rs cs ds) (n:=3) P (by simpa using ne) ?_ ?_) ?_
 .intro y D J C;let#[p,j,rfl]:=ZS.mp D;have m:=hp p j;have E:bq (cs.map aB) (p:Int)=M (aB cs[p]):=JI<|by rw[ZI,Zh m];rfl
  have F:bq (ds.map IV.int) (p:Int)=M (.int<|ds[p]'(Zb m<|Zg ld.symm)):=JI<|by rw[ZI,Zh];rfl
  have ek:rA kind rs cs ds (.int (p:Int))=[Ys kind rs cs[p]<|ds[p]'(Zb m<|Zg ld.symm),if Yr kind rs cs[p] (ds[p]'(Zb m<|Zg ld.symm))=Zl then 0 else 1,(p:Int)]:=by change cY kind rs cs ds (m9 (p:Int))=_;rw[m6];unfold cY;rw[Z0,Z0,Zh m,Zh<|show p<ds.length by show Zb m<|Zg ld.symm];rfl
  have B:=O _<|Z6 m;rw[ek];generalize cs[p]=c at E B;generalize ds[p]'(Zb m<|Zg ld.symm)=d at F;calc xb<|WR.mono (Jgs (k:=k) (o.kp C.kp) rfl (aQ rfl rfl (C.get H) E) (aQ rfl rfl (C.get gN) F) B l6) ?_;rintro _ S ⟨rfl,I⟩;calc xb<|Jf (fF (ah rfl) rfl) ?_;rw[J14 03 03<|by simp;show fU _ _];show#[rfl,I]
 .intro y D;let#[p,j,rfl]:=ZS.mp D;rfl
 .rintro v J ⟨hv,le,C⟩;let#[p,j,rfl]:=ZS.mp hv;calc#[p,j,rfl,λp' q=>?_,C];have:=le _<|ZS.mpr #[p',q,rfl];simpa only[rA,m6]using this
def Jpm{kind:Int}{bD:Nat}{j:E1}{a:A1}{v1 B m:IV}(o:eW h kind bD rs)(D:j U h=.ok (.ref bD) h)(h1:a U h=.ok [v1,B,m] h)(q:WR (xX k [.ref bD,v1,B,m] h) P):
  WR (Ju (pg k) "pick" 3 j a U h) P:=by
 let#[E,hd,C]:=o;show Xd D C qlp (Ji8 _)<|Jf h1 q
end
end
section
seal L4.run L4.WS
noncomputable def dg (c:Cm):Int:=c.ba+c.af
def jK(rs:Ua)(c:Cm):Int:=c.ba+(rs.getD c.at_ rd).1.aK
section
variable{k:Nat}{h:IH}
def yr(ea:a U h=.ok (.int i) h1)(k:b U h1=.ok (.int j) h2)(m:c U h2=.ok (.int l) h3)(t1:i<=j)(t2:j<=l):JO dr dr a b c U h=.ok (.bl Zl) h3:=by unfold JO;rw[ea];dsimp only[Res.bind];rw[k];change(match IV.bl (decide (i<=j))with|.bl Zl=>_|.bl Zm=>_|_=>_)=_;rw[decide_eq_true t1];rw[m];change Res.ok (IV.bl<|decide (j<=l)) h3=_;rw[decide_eq_true t2]
def Jv0(hd:cF h bE rs)(ok:yp rs c):WR (Cs (k+3) [.ref bE,aB c] h) λv h'=>v=.bl Zl/\Ex h h':=by
 have V:=Jx;let#[O,R,w]:=hd;have H:=w.len;let#[a,b,c,d]:=c;let#[F,P,S,m,Q,B]:=ok;have F:=F;let#[j,ev,E]:=w.get<|Zh F;have I:=JI ev;have m:=m;have B:=B;generalize rs[a]=r at E m B;rw[Jli];calc ak<|ae<|aI rfl (ax<|ae ?_);let#[_,_,J,rfl,g,rfl]:=(Qt (it:=Jq 'b') (e:=LF<|k+2) (U:=[M<|.ref bE,M<|aB #[a,b,c,d],Z]) (f:=λ_=>.bl Zl) #[rfl,rfl,rfl] (by simp;show fU _ _) (λ_ _=>trivial) (by
  intro v hv W q;obtain⟨i,rfl⟩:∃i,v=.int i:=by simp at hv;rcases hv with rfl|rfl|rfl|rfl<;>show#[_,rfl]
  show Jf (Jo (ah rfl)<|Mo _) #[rfl,.refl _])).eq
 calc aI (bU (c:=Zl)<|bH<|(eN<|ah J).trans<|all_map Jz)<|ax ?_;have C:Ex h (h++IX.lst ([IV.int (a:Int),IV.int b,IV.int c,IV.int d].map λ_=>.bl Zl)::g):=.cons _ _ _;have D:=C.get R;calc ae (aI (iG (bU<|bh<|DH rfl (aq rfl rfl Qa) (f9 rfl D MG (Ml _) rfl (MH D)) (iM a) (by rw[H];show zo.mpr 06))<|cH (lA (aq rfl rfl JN) rfl)<|decide_eq_false<|dR.mpr P)<|ax<|ae<|ao<|Jf (yq D rfl (aq rfl rfl Qa) I) ?_);show aj<|Jf (Vy (yr rfl (aq rfl rfl Ql) (au rfl (C.get E) mJ) S m)<|yr rfl (aq rfl rfl Vb) (au rfl (C.get E) sP) Q B) #[rfl,C]
def Jzp(hd:cF h bE rs)(X:h[R]?=M (.lst<|cs.map aB))(L:cV rs cs)(hl:cs.length<=1000):
  WR (Ct (k+4) [.ref bE,.ref R] h) λv h'=>v=.aw/\Ex h h':=by
 have hb:=Jx;let#[O,hD,w]:=id hd;rw[Jhc];calc ak<|ae<|ao<|Jf rfl (ae<|dO ?_);rw[Vs];calc Jf (ah rfl)<|(B8 _).mpr #[_,grow X,?_];refine JZ (λn U h'=>∃m g a b c,h'=h++IX.aV m::g/\U=[M<|.ref bE,M<|.ref R,M<|.ref h.length,a,b,c]/\m.length<=n/\∀(a:Nat) v,aW m (.inl (a:Int))=M v->∃i c,i<n/\cs[i]?=M c/\c.at_=a/\v=.int c.ba) ?_ ?_ ?_ #[[],[],Z,Z,Z,rfl,rfl,Zk _,λa v e=>by cases e]
 .rintro _ _ _ ⟨m,g,a,b,c,rfl,_⟩;show grow X
 .rintro n hn _ _ ⟨m,g,a,b,c,rfl,rfl,ln,V⟩;rw[B9];have H:n<cs.length:=by simpa[Ve]using hn
  have x1:Ex h (h++IX.aV m::g):=.cons _ _ _;rw[ZN];have J:=Zh H;have ok:=L.ok _<|Z6 H;generalize cs[n]=C at J ok;let#[_,_,e2,rfl,g2,rfl]:=(Jv0 (hd.kp x1.kp) ok).eq;calc d4 rfl (ae<|aI (bU<|bH<|Jo (ag rfl rfl) e2)<|ax<|ae<|ao<|Jf (aq rfl rfl Qa)<|ae ?_);have eh:h++IX.aV m::g++g2=h++IX.aV m::(g++g2):=by rw[iz,j8]
  rw[eh];have W:Ex h (h++IX.aV m::(g++g2)):=.cons _ _ _;have I:=ok.at_;have F:=Zh I;let#[j,ev,Y]:=w.get F;have av:=JI ev;generalize rs[C.at_]=r at F Y;have fin:∀{U:aE}(a b c),U=[M<|.ref bE,M<|.ref R,M<|.ref h.length,a,b,c]->∃B Q a b c,List.set (h++IX.aV m::(g++g2)) h.length (IX.aV<|putD m (.inl (C.at_:Int))<|.int C.ba)=h++IX.aV B::Q/\U=[M<|.ref bE,M<|.ref R,M<|.ref h.length,a,b,c]/\B.length<=n+1/\∀(a:Nat) v,aW B (.inl (a:Int))=M v->∃i c,i<n+1/\cs[i]?=M c/\c.at_=a/\v=.int c.ba:=by
   intro U a b c hZ;refine#[_,_,_,_,_,QS _ _ _,hZ,?_,λa v e=>?_]
   .unfold putD;split
    .rw[Zn];show nK 06
    .rw[ZM,pH];show nJ 06
   .rw[DZ]at e;split at e
    .rename_i z;cases e;show#[n,C,ZY _,J,by have:=Sum.inl.inj z;lia,rfl]
    .let#[i,c,h1,h2]:=V a v e;show#[i,c,jO 06,h2]
  have E:∀{U:aE}(a b:Te),U=[M<|.ref bE,M<|.ref R,M<|.ref h.length,a,M<|aB C,M<|.int (C.at_:Int)]->∀P,WS (ei (Jc Jh 'e' '1') (hU 'c' 'f') U<|h++IX.aV m::(g++g2)) (λU h'=>∃m g a b c,h'=h++IX.aV m::g/\U=[M<|.ref bE,M<|.ref R,M<|.ref h.length,a,b,c]/\m.length<=n+1/\∀(a:Nat) v,aW m (.inl (a:Int))=M v->∃i c,i<n+1/\cs[i]?=M c/\c.at_=a/\v=.int c.ba) P:=by rintro U a b rfl P;calc(Yf ..).mpr<|Jf (aq rfl rfl JN) ?_;rw[D1];calc Jf rfl (Jf rfl ?_);rw[D2 (Jz)<|show m.length<sizeLine by show Zb (Zd _ 999001)<|Zb (Zc (Zb (Zb (Zc ln 1) H) hl) 999001) hb];show fin _ _ _ rfl
  have S:∀{U:aE}(a b:Te),U=[M<|.ref bE,M<|.ref R,M<|.ref h.length,a,M<|aB C,M<|.int (C.at_:Int)]->Ji aM (Jc hJ 'f' 'c') U (h++IX.aV m::(g++g2))=.ok (aW m<|.inl (C.at_:Int)).isSome (h++IX.aV m::(g++g2)):=by rintro U a b rfl;show bh ((aD rfl rfl).trans<|Js<|by rw[ML Jz];show#[rfl,rfl])
  cases el:aW m (.inl (C.at_:Int))with|none=>show aI (o3<|(S _ Z rfl).trans<|by rw[el];rfl)<|ax<|E _ Z rfl _|some l=>
   let#[i,c0,D,e0,ea,rfl]:=V _ _ el;have c8:=L.c8 i n c0 C D e0 J ea r<|by rw[ea];show F
   show aI (mH ((S _ Z rfl).trans<|by rw[el];rfl)<|cH (lA (dE (aq rfl rfl JN)<|(aD rfl rfl).trans<|Js<|by rw[D0 Jz el];show#[rfl,rfl])<|au (yq (W.get hD) rfl rfl av) (W.get Y) p5)<|decide_eq_false 05)<|ax<|E _ Z rfl _
 .rintro _ _ ⟨m,g,a,b,c,rfl,rfl,_⟩;show aj<|Jf rfl #[rfl,.cons _ _ _]
def J2v(hd:cF h bE rs)(j:h[R]?=M (.lst<|cs.map aB))(L:cV rs cs)(hl:cs.length<=200):
  WR (Cu (k+5) [.ref bE,.ref R] h) λv h'=>v=.aw/\Ex h h':=by
 rw[Jpu];calc ak (ae<|aI (cH (fT (dD rfl j) rfl)<|decide_eq_false<|by rw[Zn];lia)<|ax<|ae<|ao<|xb<|Jf (ag rfl rfl)<|WR.mono (Jzp hd j L<|jo 06) ?_);rintro _ B ⟨rfl,m⟩;show aI rfl (ax #[rfl,m])
theorem MR:xQ (k+1) [aB c] h=.ok (.int<|dg c) h:=Js<|by rw[Jvl];show ak<|aj<|Jf (aO (aq rfl rfl JN)<|aq rfl rfl Ql) #[rfl,rfl]
def MS(hd:cF h bE rs)(ha:c.at_<rs.length):Xv (k+2) [.ref bE,aB c] h=.ok (.int<|jK rs c) h:=by unfold jK;rw[Q9 ha];show uX hd ha
end
end
def yt(I:Nat->aE->IH->Prop) (turn:∀m U h,I m U h->WR (t U h) λc h1=>(c=Zl->∃j,m=j+1/\WS (b U h1) (I j) R)/\(c=Zm->N U h1))(hm:m<1000000)(start:I m U h):WS (V5 t b U h) N R:=by
 have B:∀(n m:Nat)(U:aE)(h:IH),m<n->I m U h->WS (Vr t b n U h) N R:=by
  intro n;induction n with|zero=>intro m U h hn _;show absurd 06 (mT _)|succ n J=>
   intro m U h hn D;let#[c,h1,e,F,O]:=(turn m U h D).eq;unfold Vr;rw[e];cases c with|false=>show O rfl|true=>let#[j,rfl,w]:=F rfl;simp![if_true];cases k:b U h1 with|next H C=>rw[k]at w;show J j H C (EJ 06) w|ret v C=>rw[k]at w;show w|_=>rw[k]at w;show w.elim
 have E:Xa=1000000:=by unfold Xa;rfl
 show B _ m U h (by rw[E];show hm) start
structure Bs where
 ds:To
 lr:Tp
 wa:Tp
 t:Int
 sr:Wb
def aS(cs:Ub)(p:Nat):Int:=dg<|cs.getD p cd
def cZ(cs:Ub)(p:Nat):Int:=(cs.getD p cd).len
def jL(rs:Ua)(cs:Ub)(p:Nat):Tx:=(rs.getD (cs.getD p cd).at_ rd).2
def bQ(cs:Ub)(t:Int):Tp->Tp->List Nat×Tp|[],wa=>([],wa)|p::lr,wa=>if aS cs p<=t then bQ cs t lr (wa++[p])else(p::lr,wa)
def bX(cs:Ub)(s:Bs):Int:=match s.wa,s.lr with|[],p::_=>if aS cs p>s.t then aS cs p else s.t|_,_=>s.t
def aX(cs:Ub)(s:Bs):Bs:=#[s.ds,(bQ cs (bX cs s) s.lr s.wa).1,(bQ cs (bX cs s) s.lr s.wa).2,bX cs s,s.sr]
def VA(kind:Int)(rs:Ua)(cs:Ub)(ds:To)(wa:Tp)(p:Nat):Prop:=p∈wa/\∀q∈wa,da (cY kind rs cs ds q) (cY kind rs cs ds p)=Zm
def XL(kind:Int)(rs:Ua)(cs:Ub)(ds:To)(wa:Tp):Nat:=(wa.find? λp=>wa.all λq=>!da (cY kind rs cs ds q) (cY kind rs cs ds p)).getD 0
def VA.uniq(a:VA kind rs cs ds wa p)(b:VA kind rs cs ds wa q):p=q:=by have:=MQ (a:=cY kind rs cs ds p) (b:=cY kind rs cs ds q) rfl (b.2 p a.1) (a.2 q b.1);simp![cY]at this;lia
def VA.eq(a:VA kind rs cs ds wa p):XL kind rs cs ds wa=p:=by unfold XL;cases e:wa.find? λp=>wa.all λq=>!da (cY kind rs cs ds q) (cY kind rs cs ds p)with|none=>have:=List.find?_eq_none.mp e p a.1;simp![pN,sA]at this;show absurd a.2 this|some q=>have j:=List.find?_some e;simp at j;show VA.uniq #[List.mem_of_find?_eq_some e,j] a
noncomputable def QU (hs:Tx)(d len:Int):To:=len::(hs.filter λa=>decide (d<a.2.2)).map (·.2.2)
def QV(hs:Tx)(d len:Int):Int:=QF (λi=>(QU hs d len).getD i 0) (QU hs d len).length
def Qe(rs:Ua)(cs:Ub)(s:Bs)(p:Nat):Int:=match s.lr with|[]=>QV (jL rs cs p) (s.ds.getD p 0) (cZ cs p)-s.ds.getD p 0|q::_=>if aS cs q-s.t<QV (jL rs cs p) (s.ds.getD p 0) (cZ cs p)-s.ds.getD p 0 then aS cs q-s.t else QV (jL rs cs p) (s.ds.getD p 0) (cZ cs p)-s.ds.getD p 0
noncomputable def VX (p:Nat)(t u:Int):Wb->Wb|[]=>[(p,t,u)]|a::r=>if a.1=p then(p,a.2.1,u)::r else(p,t,u)::a::r
def kO(rs:Ua)(cs:Ub)(s:Bs)(p:Nat)(n:Int):Bs:=#[s.ds.set p<|s.ds.getD p 0+n,s.lr,if s.ds.getD p 0+n=cZ cs p then s.wa.erase p else s.wa,s.t+n,VX p s.t (s.t+n) s.sr]
def yw(kind:Int)(rs:Ua)(cs:Ub)(s:Bs):Bs:=kO rs cs s (XL kind rs cs s.ds s.wa)<|Qe rs cs s<|XL kind rs cs s.ds s.wa
def QB(kind:Int)(rs:Ua)(cs:Ub)(s:Bs):Bs:=yw kind rs cs<|aX cs s
def runM(kind:Int)(rs:Ua)(cs:Ub):Nat->Bs->Bs|0,s=>s|m+1,s=>if s.lr=[]/\s.wa=[]then s else runM kind rs cs m (QB kind rs cs s)
def iH(cs:Ub):Tp:=(cK (cs.map dg).reverse cs.length).map λi=>cs.length-1-i
def s0(cs:Ub):Bs:=#[cs.map λ_=>0,iH cs,[],0,[]]
def c6(kind:Int)(rs:Ua)(cs:Ub):Bs:=runM kind rs cs (8*cs.length)<|s0 cs
def MT(hs)(d len):QV hs d len=len\/∃a∈hs,d<a.2.2/\QV hs d len=a.2.2:=by
 let#[j,B,e]:=MP (λi=>(QU hs d len).getD i 0) (QU hs d len).length<|by simp[QU]
 unfold QV;rw[e];cases j with|zero=>show .inl rfl|succ j=>
  calc .inr ?_;have k:j<(hs.filter λa=>decide (d<a.2.2)).length:=by simpa[QU]using B
  have m:=Z6 k;rw[lK]at m;calc#[_,m.1,of_decide_eq_true m.2,?_];simp[QU,Zh k]
theorem D6(hs)(d len):QV hs d len<=len:=MO (λi=>(QU hs d len).getD i 0) _ 0<|by simp[QU]
def J1q(h:d<len):d<QV hs d len:=by rcases MT hs d len with e|⟨a,_,l,e⟩<;>(first|show ZR l (dP e.symm)|show ZR h (dP e.symm)|lia)
structure Wf(cs:Ub)(s:Bs):Prop where
 ld:s.ds.length=cs.length
 mem:∀p∈s.lr++s.wa,p<cs.length
 nd:(s.lr++s.wa).Nodup
 p6:s.lr.Pairwise λp q=>aS cs p<=aS cs q
 z:∀p∈s.lr++s.wa,0<=s.ds.getD p 0/\s.ds.getD p 0<cZ cs p
 dn:∀p,p<cs.length->p∉s.lr++s.wa->s.ds.getD p 0=cZ cs p
 z0:∀p∈s.lr,s.ds.getD p 0=0
 rw:∀p∈s.wa,aS cs p<=s.t
theorem D7(cs)(t):∀(lr wa:Tp),((bQ cs t lr wa).1++(bQ cs t lr wa).2).Perm (lr++wa)
 |[],wa=>.refl _
 |p::lr,wa=>by
  unfold bQ;split
  .calc(D7 cs t lr<|wa++[p]).trans ?_;rw[<-iz];show List.perm_append_singleton p<|lr++wa
  .show .refl _
theorem XN(cs)(t):∀(lr wa:Tp),∃a,lr=a++(bQ cs t lr wa).1/\(bQ cs t lr wa).2=wa++a/\(∀p∈a,aS cs p<=t)/\∀q r,(bQ cs t lr wa).1=q::r->t<aS cs q
 |[],wa=>#[[],rfl,by simp[bQ],03,by simp[bQ]]
 |p::lr,wa=>by
  unfold bQ;split
  .rename_i c;let#[a,k,C,B,m]:=XN cs t lr<|wa++[p];show#[p::a,congrArg (p:: ·) k,by rw[C];simp,λq j=>by rcases ZC.mp j with rfl|j;show c;show B q j,m]
  .simp_all
def D8(cs)(s):s.t<=bX cs s:=by
 unfold bX;split
 .split<;>(first|show Z2 06|show ZO _|lia)
 .show ZO _
def Wf.let(w:Wf cs s):Wf cs (aX cs s):=by
 let#[a,j,B,m,C]:=XN cs (bX cs s) s.lr s.wa;have pm:=D7 cs (bX cs s) s.lr s.wa;have k:=D8 cs s;refine#[w.ld,λp hp=>w.mem p<|pm.mem_iff.mp hp,pm.nodup_iff.mpr w.nd,?_,λp hp=>w.z p<|pm.mem_iff.mp hp,λp l hp=>w.dn p l λz=>hp<|pm.mem_iff.mpr z,λp hp=>w.z0 p ?_,λp hp=>?_]
 .have:=w.p6;rw[j]at this;show(pJ.mp this).2.1
 .rw[j];show Zt _ hp
 .have hp:p∈(bQ cs (bX cs s) s.lr s.wa).2:=hp;rw[B]at hp;rcases ZQ.mp hp with hp|hp
  .have:=w.rw p hp;show Z8 this k
  .show m p hp
def D9(ne:¬(s.lr=[]/\s.wa=[])):(aX cs s).wa≠[]:=by
 let#[a,m,C,D,B]:=XN cs (bX cs s) s.lr s.wa;intro e;have e:(bQ cs (bX cs s) s.lr s.wa).2=[]:=e;rw[C]at e;let#[j,ea]:=List.append_eq_nil_iff.mp e;cases el:s.lr with|nil=>show ne #[el,j]|cons p r=>
  have:=B p r<|by rw[<-el];simpa[ea]using m.symm
  have k:bX cs s=if aS cs p>s.t then aS cs p else s.t:=by unfold bX;rw[j,el]
  rw[k]at this;split at this<;>(first|show gp.mpr this (ZO _)|show gp.mpr this (dR.mp 06)|lia)
def MU(w:Wf cs s):∀q∈(aX cs s).lr,(aX cs s).t<aS cs q:=by
 let#[a,B,D,C,m]:=XN cs (bX cs s) s.lr s.wa;have j:=w.let.p6;change ∀q∈(bQ cs (bX cs s) s.lr s.wa).1,bX cs s<aS cs q;have j:((bQ cs (bX cs s) s.lr s.wa).1).Pairwise _:=j;cases e:(bQ cs (bX cs s) s.lr s.wa).1 with|nil=>simp|cons p r=>
  have:=m p r e;rw[e]at j;intro q k;rcases ZC.mp k with rfl|k
  .show this
  .have:=(nU.mp j).1 q k;show ZR 06 this
def Ea(gt:∀q∈s.lr,s.t<aS cs q)(l:s.ds.getD p 0<cZ cs p):0<Qe rs cs s p/\s.ds.getD p 0+Qe rs cs s p<=QV (jL rs cs p) (s.ds.getD p 0) (cZ cs p):=by
 have:=J1q (hs:=jL rs cs p) l;unfold Qe;split
 .lia
 .rename_i q r e;have:=gt q<|by rw[e];simp
  split<;>lia
def Y3{l:List α}{x z:α}:(l.set i x).getD j z=if i=j/\j<l.length then x else l.getD j z:=by
 simp;by_cases e:i=j
 .subst e;by_cases k:i<l.length
  .simp[k]
  .simp[k]
 .simp[e]
def Wf.do(w:Wf cs s)(hp:p∈s.wa)(n0:0<n)(D:s.ds.getD p 0+n<=cZ cs p):Wf cs (kO rs cs s p n):=by
 have m:=w.mem p<|Zt _ hp;have sub:(s.lr++(kO rs cs s p n).wa).Sublist (s.lr++s.wa):=by
  calc List.Sublist.append_left ?_ _;change List.Sublist (if _ then _ else _) _;split
  .show List.erase_sublist
  .show List.Sublist.refl _
 have k:=λq j e=>(pJ.mp w.nd).2.2 q j p hp e
 have C:=(pJ.mp w.nd).2.1;have g:∀q,(kO rs cs s p n).ds.getD q 0=if p=q then s.ds.getD p 0+n else s.ds.getD q 0:=λq=>by
  change(s.ds.set p _).getD q 0=_;rw[Y3];by_cases e:p=q
  .subst e;rw[if_pos #[rfl,by rw[w.ld];show m],if_pos rfl]
  .rw[if_neg λz=>e z.1,if_neg e]
 refine#[by change(s.ds.set _ _).length=_;rw[qn];show w.ld,λq j=>w.mem q<|sub.subset j,w.nd.sublist sub,w.p6,λq j=>?_,λq B j=>?_,λq j=>?_,λq j=>?_]
 .have:=w.z q<|sub.subset j;rw[g];split
  .rename_i e;subst e;calc#[Z2<|Z1 this.1<|jy _ n0,?_];rcases ZQ.mp j with j|j
   .show absurd rfl (k p j)
   .have j:p∈if s.ds.getD p 0+n=cZ cs p then s.wa.erase p else s.wa:=j
    split at j
    .show absurd j<|List.Nodup.not_mem_erase C
    .show Int.lt_iff_le_and_ne.mpr #[D,06]
  .show this
 .rw[g];split
  .rename_i e;subst e;have j:p∉s.lr++if s.ds.getD p 0+n=cZ cs p then s.wa.erase p else s.wa:=j
   split at j
   .assumption
   .show absurd (Zt _ hp) j
  .rename_i ne;refine w.dn q B λz=>j ?_
   change q∈s.lr++if s.ds.getD p 0+n=cZ cs p then s.wa.erase p else s.wa
   split
   .rcases ZQ.mp z with z|z
    .show iL _ z
    .show Zt _<|(List.mem_erase_of_ne<|ZV ne).mpr z
   .show z
 .rw[g,if_neg<|ZV<|k q j];show w.z0 q j
 .have:=w.rw q (by
   have j:q∈if s.ds.getD p 0+n=cZ cs p then s.wa.erase p else s.wa:=j
   split at j
   .show E5 j
   .show j)
  change _<=s.t+n;show Z2<|Z1 this<|jy _ n0
theorem Eb:∀{wa:Tp},wa≠[]->∃p,VA kind rs cs ds wa p
 |[],h=>absurd rfl h
 |[p],_=>#[p,03,λq k=>by rw[ZE.mp k];show Y6 _]
 |p::q::r,_=>by
  let#[m,hm,j]:=Eb (wa:=q::r) 03;cases c:da (cY kind rs cs ds p) (cY kind rs cs ds m)with
  |true=>
   calc#[p,03,λx hx=>?_];rcases ZC.mp hx with rfl|hx
   .show Y6 _
   .cases z:da (cY kind rs cs ds x) (cY kind rs cs ds p)with
    |false=>rfl
    |true=>show absurd (Cj z c)<|by rw[j x hx];show Zz
  |false=>
   calc#[m,Zq _ hm,λx hx=>?_];rcases ZC.mp hx with rfl|hx
   .show c
   .show j x hx
def VG(rs:Ua)(cs:Ub)(ds:To)(p:Nat):Nat:=((jL rs cs p).filter λa=>decide (ds.getD p 0<a.2.2)).length
def mL(rs:Ua)(cs:Ub)(s:Bs):Nat:=(s.lr++s.wa).length+((cO cs.length).map<|VG rs cs s.ds).sum+(s.lr.filter λp=>decide (s.t<aS cs p)).length
theorem Y1:∀{l:List α},(∀x∈l,f x=Zl->g x=Zl)->(l.filter f).length<=(l.filter g).length
 |[],_=>03
 |x::l,h=>by
  have j:=Y1 λy k=>h y<|Zq _ k
  have:=h x 03;simp![vM];split
  .simp_all
  .split
   .simp;show nK 06
   .show j
theorem Ec:∀{l:List α},a∈l->f a=Zm->g a=Zl->(∀x∈l,f x=Zl->g x=Zl)->(l.filter f).length<(l.filter g).length
 |x::l,ha,fa,ga,h=>by
  have le:=Y1 λy j=>h y<|Zq _ j
  have hx:=h x 03;rcases ZC.mp ha with rfl|ha
  .simp only[vM,fa,ga,if_true,ji];show nJ 06
  .have k:=Ec ha fa ga λy j=>h y<|Zq _ j
   simp![vM];split
   .simp_all
   .split
    .simp;show nJ 06
    .show k
theorem yx{f g:Nat->Nat}:∀{l:Tp},(∀x∈l,f x<=g x)->(l.map f).sum<=(l.map g).sum
 |[],_=>Zk _
 |x::l,h=>by
  have:=h x 03;have:=yx λy j=>h y<|Zq _ j
  simp;show pd 06 this
theorem MV{f g:Nat->Nat}:∀{l:Tp},a∈l->f a<g a->(∀x∈l,f x<=g x)->(l.map f).sum<(l.map g).sum
 |x::l,ha,la,h=>by
  have hx:=h x 03;have le:=yx λy j=>h y<|Zq _ j
  simp;rcases ZC.mp ha with rfl|ha
  .show yH la le
  .have:=MV ha la λy j=>h y<|Zq _ j
   show yI hx this
def J0n(rs)(cs)(s):mL rs cs (aX cs s)<=mL rs cs s:=by
 let#[a,m,F,E,D]:=XN cs (bX cs s) s.lr s.wa;have pm:=(D7 cs (bX cs s) s.lr s.wa).length_eq;have j:=D8 cs s;change((bQ cs (bX cs s) s.lr s.wa).1++(bQ cs (bX cs s) s.lr s.wa).2).length+_+((bQ cs (bX cs s) s.lr s.wa).1.filter λp=>decide (bX cs s<aS cs p)).length<=_;rw[pm];unfold mL;have k:=Y1 (g:=λp=>decide (s.t<aS cs p)) (l:=(bQ cs (bX cs s) s.lr s.wa).1) λx _ c=>decide_eq_true<|Z1 j<|of_decide_eq_true c
 have C:(s.lr.filter λp=>decide (s.t<aS cs p)).length=(a.filter λp=>decide (s.t<aS cs p)).length+((bQ cs (bX cs s) s.lr s.wa).1.filter λp=>decide (s.t<aS cs p)).length:=by
  conv=>lhs;rw[m]
  rw[List.filter_append,ZM]
 have B:((cO cs.length).map<|VG rs cs (aX cs s).ds).sum=((cO cs.length).map<|VG rs cs s.ds).sum:=rfl;show pd (pd (Zk _)<|Zg B)<|Zb (Zb k<|fU _ _)<|Zg C.symm
def J4l(w:Wf cs s)(gt:∀q∈s.lr,s.t<aS cs q)(hp:p∈s.wa):mL rs cs (kO rs cs s p<|Qe rs cs s p)<mL rs cs s:=by
 have B:=w.mem p<|Zt _ hp;let#[n0,D]:=Ea gt (w.z p<|Zt _ hp).2;have E:=D6 (jL rs cs p) (s.ds.getD p 0)<|cZ cs p;have hn:∀n,n=Qe rs cs s p->0<n/\s.ds.getD p 0+n<=cZ cs p:=λn e=>by rw[e];show#[n0,Z8 D E]
 have j:(s.ds.getD p 0+Qe rs cs s p=cZ cs p)\/(∃a∈jL rs cs p,s.ds.getD p 0<a.2.2/\s.ds.getD p 0+Qe rs cs s p=a.2.2)\/∃q∈s.lr,s.t+Qe rs cs s p=aS cs q:=by
  unfold Qe;have:=MT (jL rs cs p) (s.ds.getD p 0)<|cZ cs p;split
  .rcases this with e|⟨a,ha,l,e⟩
   .show .inl 05
   .show .inr<|.inl #[a,ha,l,05]
  .rename_i q r e;split
   .show .inr (.inr #[q,by rw[e];simp,05])
   .rcases this with e|⟨a,ha,l,e⟩
    .show .inl 05
    .show .inr<|.inl #[a,ha,l,05]
 generalize Qe rs cs s p=n at n0 D j;have gd:∀q,(s.ds.set p<|s.ds.getD p 0+n).getD q 0=if p=q then s.ds.getD p 0+n else s.ds.getD q 0:=λq=>by
  rw[Y3];by_cases e:p=q
  .subst e;rw[if_pos #[rfl,by rw[w.ld];show B],if_pos rfl]
  .rw[if_neg λz=>e z.1,if_neg e]
 have k:∀q∈cO cs.length,VG rs cs (s.ds.set p<|s.ds.getD p 0+n) q<=VG rs cs s.ds q:=λq _=>Y1 λx _ c=>by
  have c:=of_decide_eq_true c;rw[gd]at c;calc decide_eq_true ?_;split at c
  .rename_i e;subst e;show zl (jy _ n0) 06
  .show c
 have C:∀x∈s.lr,decide (s.t+n<aS cs x)=Zl->decide (s.t<aS cs x)=Zl:=λx _ c=>decide_eq_true<|by simp_all
 have l2:=yx k;have F:=Y1 C;have m:(s.lr++if s.ds.getD p 0+n=cZ cs p then s.wa.erase p else s.wa).length<=(s.lr++s.wa).length:=by
  rw[ZM,ZM];split
  .have:=EW hp;show pd (Zk _)<|Zb (Zg this)<|eX _ _
  .show Zk _
 change(s.lr++if s.ds.getD p 0+n=cZ cs p then s.wa.erase p else s.wa).length+((cO cs.length).map<|VG rs cs<|s.ds.set p<|s.ds.getD p 0+n).sum+(s.lr.filter λx=>decide (s.t+n<aS cs x)).length<(s.lr++s.wa).length+((cO cs.length).map<|VG rs cs s.ds).sum+(s.lr.filter λx=>decide (s.t<aS cs x)).length;rcases j with e|⟨a,ha,la,e⟩|⟨q,hq,e⟩
 .rw[if_pos e,ZM,ZM];have:=EW hp;have:=List.length_pos_of_mem hp;omega
 .have:=MV (fO.mpr B) (Ec ha (decide_eq_false<|by simp_all) (decide_eq_true la) λx _ c=>by have c:=of_decide_eq_true c;rw[gd,if_pos rfl]at c;show decide_eq_true<|zl (ZR la<|dP e.symm) c) k;show yH (yI m this) F
 .have:=Ec hq (decide_eq_false<|dR.mpr<|dP e.symm) (decide_eq_true<|gt q hq) C;show yI (pd m l2) this
section
seal L4.run
abbrev nI(n:Nat):IV:=.int (n:Int)
noncomputable abbrev tupS (a:Nat×Int×Int):IV:=.tup [.int (a.1:Int),.int a.2.1,.int a.2.2]
noncomputable def cM (bD R bE L W:Nat)(t:Int)(S:Nat):Wn:=[("order",.ref bD),("row",.ref R),("dones",.ref bE),("later",.ref L),("waiting",.ref W),("turn",.int t),("stretches",.ref S)]
section
variable{bD R bE L W S:Nat}{t u:Int}
theorem MW:(cM bD R bE L W t S).lookup ("order":Str)=M (.ref bD):=02
theorem yy:(cM bD R bE L W t S).lookup ("row":Str)=M (.ref R):=02
theorem yz:(cM bD R bE L W t S).lookup ("dones":Str)=M (.ref bE):=02
theorem uY:(cM bD R bE L W t S).lookup ("later":Str)=M (.ref L):=02
theorem uZ:(cM bD R bE L W t S).lookup ("waiting":Str)=M (.ref W):=02
theorem sV:(cM bD R bE L W t S).lookup ("turn":Str)=M (.int t):=02
theorem u5:(cM bD R bE L W t S).lookup ("stretches":Str)=M (.ref S):=02
theorem bn0:(cM bD R bE L W t S).lookup ("next_ready":Str)=Z:=02
theorem bn1:(cM bD R bE L W t S).lookup ("let_in":Str)=Z:=02
theorem bn2:(cM bD R bE L W t S).lookup ("turns_for":Str)=Z:=02
theorem bn3:(cM bD R bE L W t S).lookup ("tell":Str)=Z:=02
theorem bn4:(cM bD R bE L W t S).lookup ("go_on":Str)=Z:=02
theorem MX:bG "turn" (.int u) (cM bD R bE L W t S)=cM bD R bE L W u S:=02
end
structure Bg(h0:IH)(kind:Int)(rs:Ua)(cs:Ub)(bD R:Nat):Prop where
 o:eW h0 kind bD rs
 r:h0[R]?=M (.lst<|cs.map aB)
 c:∀c∈cs,c.at_<rs.length
 l6:∀r∈rs,r.2.length<=6
 p1:h0[0]?=M (.tab "Order.pick")
 n:cs.length<=200
structure Bn(h0 h:IH)(B bD R bE L W S:Nat)(s:Bs):Prop where
 x:Ex h0 h
 ap:h0.length<=B/\B<bE/\bE<L/\L<W/\W<S
 b:h[B]?=M (.ins "Bench"<|cM bD R bE L W s.t S)
 d:h[bE]?=M (.lst<|s.ds.map .int)
 l:h[L]?=M (.lst<|s.lr.reverse.map nI)
 w:h[W]?=M (.lst<|s.wa.map nI)
 s:h[S]?=M (.lst<|s.sr.reverse.map tupS)
def Q7(x:Ex h0 h)(l:h0.length<=i):Ex h0 (h.set i o):=by let#[g,rfl]:=x;show#[g.set (i-h0.length) o,by rw[E3 _ _ l]]
def J6{h:IH}(e:h[j]?=M o)(n:i≠j):(h.set i o')[j]?=M o:=by rw[iy n];show e
theorem Qd{h:IH}(e:h[i]?=M o):(h.set i o')[i]?=M o':=jw<|JF e
section
variable{h0 h h':IH}{B bD R bE L W S:Nat}{s:Bs}
theorem Bn.ex(b:Bn h0 h B bD R bE L W S s)(x:Ex h h'):Bn h0 h' B bD R bE L W S s:=#[b.x.trans x,b.ap,x.get b.b,x.get b.d,x.get b.l,x.get b.w,x.get b.s]
theorem Bn.u6(b:Bn h0 h B bD R bE L W S s)(u):Bn h0 (h.set B<|.ins "Bench"<|cM bD R bE L W u S) B bD R bE L W S #[s.ds,s.lr,s.wa,u,s.sr]:=
 have ap:=b.ap
 #[Q7 b.x<|ap.1,ap,Qd b.b,J6 b.d<|Zw ap.2.1,J6 b.l<|Zw<|Zo<|Zb (Zc ap.2.1 1) ap.2.2.1,J6 b.w<|Zw<|Zb (Zd _ 2)<|Zb (Zc (Zb (Zc ap.2.1 1) ap.2.2.1) 1) ap.2.2.2.1,J6 b.s<|Zw<|Zb (Zd _ 3)<|Zb (Zc (Zb (Zc (Zb (Zc ap.2.1 1) ap.2.2.1) 1) ap.2.2.2.1) 1) ap.2.2.2.2]
theorem Bn.Ed(b:Bn h0 h B bD R bE L W S s)(ds):Bn h0 (h.set bE<|.lst<|ds.map .int) B bD R bE L W S #[ds,s.lr,s.wa,s.t,s.sr]:=
 have ap:=b.ap
 #[Q7 b.x<|Zo<|Zb (Zc ap.1 1) ap.2.1,ap,J6 b.b<|dH ap.2.1,Qd b.d,J6 b.l<|Zw ap.2.2.1,J6 b.w<|Zw<|Zo<|Zb (Zc ap.2.2.1 1) ap.2.2.2.1,J6 b.s<|Zw<|Zb (Zd _ 2)<|Zb (Zc (Zb (Zc ap.2.2.1 1) ap.2.2.2.1) 1) ap.2.2.2.2]
theorem Bn.Ee(b:Bn h0 h B bD R bE L W S s)(lr):Bn h0 (h.set L<|.lst<|lr.reverse.map nI) B bD R bE L W S #[s.ds,lr,s.wa,s.t,s.sr]:=
 have ap:=b.ap
 #[Q7 b.x<|Zb (Zd _ 2)<|Zb (Zc (Zb (Zc ap.1 1) ap.2.1) 1) ap.2.2.1,ap,J6 b.b<|dH<|Zo<|Zb (Zc ap.2.1 1) ap.2.2.1,J6 b.d<|dH ap.2.2.1,Qd b.l,J6 b.w<|Zw ap.2.2.2.1,J6 b.s<|Zw<|Zo<|Zb (Zc ap.2.2.2.1 1) ap.2.2.2.2]
theorem Bn.u7(b:Bn h0 h B bD R bE L W S s)(wa):Bn h0 (h.set W<|.lst<|wa.map nI) B bD R bE L W S #[s.ds,s.lr,wa,s.t,s.sr]:=
 have ap:=b.ap
 #[Q7 b.x<|Zb (Zd _ 3)<|Zb (Zc (Zb (Zc (Zb (Zc ap.1 1) ap.2.1) 1) ap.2.2.1) 1) ap.2.2.2.1,ap,J6 b.b<|dH<|Zb (Zd _ 2)<|Zb (Zc (Zb (Zc ap.2.1 1) ap.2.2.1) 1) ap.2.2.2.1,J6 b.d<|dH<|Zo<|Zb (Zc ap.2.2.1 1) ap.2.2.2.1,J6 b.l<|dH ap.2.2.2.1,Qd b.w,J6 b.s<|Zw ap.2.2.2.2]
theorem Bn.u9(b:Bn h0 h B bD R bE L W S s)(sr):Bn h0 (h.set S<|.lst<|sr.reverse.map tupS) B bD R bE L W S #[s.ds,s.lr,s.wa,s.t,sr]:=
 have ap:=b.ap
 #[Q7 b.x<|Zb (Zd _ 4)<|Zb (Zc (Zb (Zc (Zb (Zc (Zb (Zc ap.1 1) ap.2.1) 1) ap.2.2.1) 1) ap.2.2.2.1) 1) ap.2.2.2.2,ap,J6 b.b<|dH<|Zb (Zd _ 3)<|Zb (Zc (Zb (Zc (Zb (Zc ap.2.1 1) ap.2.2.1) 1) ap.2.2.2.1) 1) ap.2.2.2.2,J6 b.d<|dH<|Zb (Zd _ 2)<|Zb (Zc (Zb (Zc ap.2.2.1 1) ap.2.2.2.1) 1) ap.2.2.2.2,J6 b.l<|dH<|Zo<|Zb (Zc ap.2.2.2.1 1) ap.2.2.2.2,J6 b.w<|dH ap.2.2.2.2,Qd b.s]
end
def yA:bq ((p::lr).reverse.map f) (-1)=M (f p):=by have e:(-1+((lr.length:Int)+1)).toNat=lr.length:=05;have l:(1:Int)<=(lr.length:Int)+1:=E8<|iM _;simp[bq,ki,e,l]
theorem Xy{cs:Ub}(j:p<cs.length):bq (cs.map aB) (p:Int)=M (aB<|cs.getD p cd):=JI<|by simp_all
theorem Ef{ds:To}(j:p<ds.length):bq (ds.map IV.int) (p:Int)=M (.int<|ds.getD p 0):=JI<|by simp_all
section
variable{k:Nat}{h0 h:IH}{kind:Int}{rs:Ua}{cs:Ub}{B bD R bE L W S:Nat}{s:Bs}{P:IV->IH->Prop}
def J7b(g:Bg h0 kind rs cs bD R)(b:Bn h0 h B bD R bE L W S s)(e:s.lr=p::lr)(j:p<cs.length):CD (k+2) [.ref B] h=.ok (.int<|aS cs p) h:=by have bl:=b.l;rw[e]at bl;calc Js ?_;rw[Jc5];show ak<|aj<|Jf (Jo (ah<|aQ (au rfl b.b yy) (aQ (au rfl b.b uY) rfl bl yA) (b.x.get g.r)<|Xy j) MR) #[rfl,rfl]
theorem Eg(g:Bg h0 kind rs cs bD R)(b:Bn h0 h B bD R bE L W S s)(e:s.lr=p::lr)(j:p<cs.length):Ju (pg<|k+2) "next_ready" 0 'a' Je (M (.ref B)::Pn) h=.ok (.int<|aS cs p) h:=f9 rfl b.b bn0 (Jc4 _) rfl (J7b g b e j)
theorem Jtt:bQ cs t (p::lr) wa=if aS cs p<=t then bQ cs t lr (wa++[p])else(p::lr,wa):=rfl
def MY(g:Bg h0 kind rs cs bD R)(C:∀p∈s.lr,p<cs.length)(hl:s.lr.length+s.wa.length<=1000)(b:Bn h0 h B bD R bE L W S s):WS (LK (k+2) [M<|.ref B] h) (λ_ h'=>Bn h0 h' B bD R bE L W S #[s.ds,(bQ cs s.t s.lr s.wa).1,(bQ cs s.t s.lr s.wa).2,s.t,s.sr]) P:=by
 have E:=Jx;calc yt (λm U h'=>∃lr wa,U=[M<|.ref B]/\Bn h0 h' B bD R bE L W S #[s.ds,lr,wa,s.t,s.sr]/\lr.length=m/\lr.length+wa.length<=1000/\(∀p∈lr,p<cs.length)/\bQ cs s.t lr wa=bQ cs s.t s.lr s.wa) ?_ (show s.lr.length<1000000 by show Zb (Zb (Zc (Zd _ _) 1)<|Zc hl 1)<|Zd _ 998999) #[s.lr,s.wa,rfl,b,rfl,hl,C,rfl];rintro m _ I ⟨lr,wa,rfl,b,F,l2,C,j⟩;refine DB<|Jf (fT (dD (au rfl b.b uY) b.l) rfl)<|cX (λc=>?_) λc=>?_
 .cases lr with|nil=>show absurd c 03|cons p lr=>
   rw[Jtt]at j;refine Jf (oY (Eg g b rfl (C p 03))<|au rfl b.b sV)<|cX (λc=>?_) λc=>?_
   .calc#[lr.length,by simpa using F.symm,?_];calc Qg<|QD (au rfl b.b uZ) b.w VD<|xb<|QD (au rfl b.b uY) b.l Mn<|Jf rfl (uU (y:=nI p) b.l 03 ?_);have e:(((p::lr).reverse.map nI).dropLast)=lr.reverse.map nI:=03;rw[e];have D:=b.Ee lr;calc xb (Jf rfl (Jf rfl (jc D.w (by simp at l2 ⊢;show Zb (Zd _ 999000)<|Zb (Zc (Zb (Zc (fU _ _) 1)<|Zc l2 1) 999000) E) #[lr,wa++[p],rfl,?_,rfl,by simp at l2 ⊢;lia,λq H=>C q<|Zq _ H,by rw[<-j,if_pos c]])));have:=D.u7<|wa++[p];rw[j9]at this;show this
   .rw[if_neg c]at j;rw[<-j];show b
 .cases lr with|nil=>show#[(λz=>by cases z),λ_=>by rw[<-j];show b]|cons p lr=>show absurd 03 c
def J69(g:Bg h0 kind rs cs bD R)(j:∀p∈s.lr,p<cs.length)(hl:s.lr.length+s.wa.length<=1000)(ne:¬(s.lr=[]/\s.wa=[]))(b:Bn h0 h B bD R bE L W S s):
  WR (CF (k+3) [.ref B] h) λv h'=>v=.aw/\Bn h0 h' B bD R bE L W S (aX cs s):=by
 rw[Jgf];refine ak<|ae<|mG (sT (dD (au rfl b.b uZ) b.w) rfl) (λc=>?_) λc=>?_
 .have C:s.wa=[]:=vG.mp<|by simpa using c
  cases el:s.lr with|nil=>show absurd #[el,C] ne|cons p lr=>
   have m:bX cs s=if aS cs p>s.t then aS cs p else s.t:=by unfold bX;rw[C,el]
   calc Qu (oZ (au rfl b.b sV)<|Eg g b el<|j p<|by rw[el];simp) rfl b.b (by change(7:Nat)<1000;decide) ?_;rw[MX];have D:=b.u6 (if aS cs p>s.t then aS cs p else s.t);refine WS.mono (MY (s:=#[s.ds,s.lr,s.wa,if aS cs p>s.t then aS cs p else s.t,s.sr]) g j hl D) (λ_ h' q=>#[rfl,?_]) λ_ _ z=>z
   unfold aX;rw[m];show q
 .have m:bX cs s=s.t:=by
   unfold bX;split
   .rename_i e _;rw[e]at c;show absurd rfl c
   .rfl
  refine ax<|WS.mono (MY g j hl b) (λ_ h' q=>#[rfl,?_]) λ_ _ z=>z
  unfold aX;rw[m];show q
end
end
section
seal L4.run
noncomputable def Eh (d:Int):IV->Bool|.tup [_,_,.int e]=>decide (d<e)|_=>Zm
noncomputable def MZ:IV->IV|.tup [_,_,e]=>e|_=>.aw
def J25(hs:Tx)(d):((hs.map az).filter<|Eh d).map MZ=((hs.filter λa=>decide (d<a.2.2)).map (·.2.2)).map .int:=by
 induction hs with|nil=>rfl|cons a hs j=>
  simp![eP,vM];rw[show Eh d (az a)=decide (d<a.2.2)from rfl];split
  .simp only[eP,j];rfl
  .show j
section
variable{k:Nat}{h0 h:IH}{kind:Int}{rs:Ua}{cs:Ub}{B bD R bE L W S:Nat}{s:Bs}{P:IV->IH->Prop}
def J7c(D:h[w]?=M (.ins "Work"<|ig name gap ln aK af<|hs.map az))(l6:hs.length<=6):WR (CB (k+2) [.ref w,.int d,.int len] h) λv h'=>v=.int (QV hs d len)/\Ex h h':=by
 have m:=Jx;rw[Jlr];have j:Ex h (h++[.lst [.int len]]):=.one _ _;calc ak (aj<|xb<|xb<|xb<|mF<|Jf (ah rfl) #[by simp;show mR 06,xb ?_]);refine WR.mono (xG (h:=h++[.lst [.int len]]++[.lst<|hs.map az]) (xs:=hs.map az) (p:=Eh d) (f:=MZ) ?_ (by rw[Zn];show Zb (Zd _ 999994)<|Zb (Zc (Zc l6 1) 999994) m) (λC q=>q _ _ grown) ?_ ?_) ?_
 .rw[JC];show Jf (f9 rfl (j.get D) Ms (Mj _) rfl (Mt<|j.get D))<|(JM _).mpr #[_,grown,rfl,rfl,rfl]
 .intro v hv C q;let#[a,_,rfl]:=ZS.mp hv;show Jf (fT (aq rfl rfl Ql) rfl) #[rfl,.refl _]
 .intro v hv _ C q;let#[a,_,rfl]:=ZS.mp hv;show Jf (aq rfl rfl Ql) #[rfl,.refl _]
 .rintro _ _ ⟨rfl,g,rfl⟩;rw[J25];have E:=sh (λa:Hd=>decide (d<a.2.2)) hs;have B:Ex (h++[.lst [.int len]]) (h++[.lst [.int len]]++[.lst<|hs.map az]++.lst (((hs.filter λa=>decide (d<a.2.2)).map (·.2.2)).map .int)::g):=(Ex.one _ _).trans<|.cons _ _ _;calc(IK ..).mpr #[_,B.get grown,_,Jz,by simp;(rw[lE];show Zb (Zd _ 999994)<|Zb (Zc (Zb (Zc E 1)<|Zc l6 1) 999994) m),?_];calc xb<|Jf rfl (Jf rfl ?_);rw[B1,show[IV.int len]++((hs.filter λa=>decide (d<a.2.2)).map (·.2.2)).map .int=(QU hs d len).map .int from rfl,J2c grown<|by simp[QU]];show#[rfl,(j.trans B).trans<|.one _ _]
def J78(g:Bg h0 kind rs cs bD R)(I:∀p∈s.lr,p<cs.length)(b:Bn h0 h B bD R bE L W S s)(F:p<cs.length)(ld:s.ds.length=cs.length):WR (CG (k+3) [.ref B,nI p] h) λv h'=>v=.int (Qe rs cs s p)/\Ex h h':=by
 let#[Du,#[O,H,w],Q]:=D3<|g.o.kp b.x.kp;have ca:(cs.getD p cd).at_<rs.length:=g.c _<|by simp_all
 have l6:=g.l6 _<|Z6 ca;let#[j,P,C]:=w.get<|Zh ca;have J:=JI P;have E:jL rs cs p=(rs[(cs.getD p cd).at_]).2:=by unfold jL;rw[Q9 ca]
 rw[<-E]at l6;rw[Jdx];calc ak<|ae<|ao<|Jf (aQ (au rfl b.b yy) rfl (b.x.get g.r) (Xy F))<|ae<|ao<|Jf (aQ (au rfl b.b yz) rfl b.d (Ef<|Zb F<|Zg ld.symm)) ?_;calc ae<|ao<|xb<|xb<|xb<|Jf (f9 (Q _ _<|au rfl b.b MW) H DS (DA _) (ah<|aq rfl rfl Qa)<|DT H J)<|xb<|Jf (ag rfl (aq rfl rfl Vb))<|Jf rfl ?_;have C:h[j]?=M (.ins "Work"<|ig _ _ _ _ _<|(rs[(cs.getD p cd).at_]).2.map az):=C;rw[<-E]at C;calc WR.mono (J7c C l6) ?_;rintro _ U ⟨rfl,D⟩;have m:=b.ex D;refine xb<|Jf rfl (Jf rfl (ae<|mG (fT (dD (au rfl m.b uY) m.l) rfl) (λc=>?_) λc=>?_))
 .cases el:s.lr with|nil=>rw[el]at c;show absurd c 03|cons q lr=>calc ao (Jf (DF rfl (dE (Eg g m el<|I q<|by rw[el];simp)<|au rfl m.b sV))<|aj<|Jf rfl #[?_,D]);unfold Qe;rw[el];rfl
 .calc ax<|aj<|Jf rfl #[?_,D];have el:s.lr=[]:=by cases el:s.lr with|nil=>rfl|cons q lr=>rw[el]at c;show absurd 03 c
  unfold Qe;rw[el];rfl
def J77(b:Bn h0 h B bD R bE L W S s)(sl:s.sr.length<100000):WR (CH (k+1) [.ref B,nI p,.int u] h) λv h'=>v=.aw/\Bn h0 h' B bD R bE L W S #[s.ds,s.lr,s.wa,s.t,VX p s.t u s.sr]:=by
 have E:=Jx;have fin:∀{D:IH}{C:Int}{r:Wb},Bn h0 D B bD R bE L W S #[s.ds,s.lr,s.wa,s.t,r]->r.length<=s.sr.length->VX p s.t u s.sr=(p,C,u)::r ->WS (LL k [M<|.ref B,M<|nI p,M<|.int u,M<|.int C] D) (λ_ h'=>IV.aw=.aw/\Bn h0 h' B bD R bE L W S #[s.ds,s.lr,s.wa,s.t,VX p s.t u s.sr]) λv h'=>v=.aw/\Bn h0 h' B bD R bE L W S #[s.ds,s.lr,s.wa,s.t,VX p s.t u s.sr]:=by intro D C r m lr F;calc Qg (QD (au rfl m.b u5) m.s VD<|xb<|oX<|xb<|Jf rfl (xb<|Jf (ag rfl rfl)<|Jf rfl #[by simp;show fU _ _,xb<|Jf rfl (Jf rfl (jc m.s (by simp;show Zb (Zd _ 900001)<|Zb (Zc (Zb (Zc lr 1) sl) 900001) E) #[rfl,?_]))]));have:=m.u9<|(p,C,u)::r;rw[nV,j9]at this;rw[F];show this
 rw[Jjb];refine ak<|ae<|ao<|Jf (au rfl b.b sV)<|ae<|nG<|DB<|Jf (fT (dD (au rfl b.b u5) b.s) rfl)<|cX (λc=>?_) λc=>?_
 .cases j:s.sr with|nil=>rw[j]at c;show absurd c 03|cons a r=>
   have bs:=b.s;rw[j]at bs;refine Jf (sT (aq (aQ (au rfl b.b u5) rfl bs yA) rfl Qa) rfl)<|cX (λc=>?_) λc=>?_
   .calc ao<|xb<|QD (au rfl b.b u5) bs Mn<|Jf rfl (uU (y:=tupS a) bs 03<|xb<|Jf rfl (uS JN ?_));have e:((a::r).reverse.map tupS).dropLast=r.reverse.map tupS:=03;rw[e];rw[<-j];calc fin (r:=r) (b.u9 r) (by rw[j];simp) ?_;rw[j];show if_pos 05
   .calc ax ?_;rw[<-j];calc fin (r:=s.sr) b (Zk _) ?_;rw[j];show if_neg λz=>c<|by rw[z]
 .calc#[(λz=>by cases z),λ_=>ax<|fin (r:=s.sr) b (Zk _) ?_];cases j:s.sr with|nil=>rfl|cons a r=>rw[j]at c;show absurd 03 c
theorem M0:∀(l:List α)(j:Nat),(l.map f).eraseIdx j=(l.eraseIdx j).map f|[],_=>rfl|_::_,0=>rfl|a::l,j+1=>congrArg (f a:: ·)<|M0 l j
def Jr2{wa:Tp}{p j:Nat}(e:(wa.map λn:Nat=>(n:Int)).findIdx? (· ==(p:Int))=M j):wa.eraseIdx j=wa.erase p:=by
 rw[List.findIdx?_map]at e;have e:wa.findIdx? (· ==p)=M j:=by rw[<-e];congr 1;funext x;lia
 rw[List.erase_eq_eraseIdx,show List.idxOf? p wa=M j from e]
def J6t(g:Bg h0 kind rs cs bD R)(w:Wf cs s)(ne:¬(s.lr=[]/\s.wa=[]))(sl:s.sr.length<100000)(b:Bn h0 h B bD R bE L W S s):WR (CI (k+6) [.ref B] h) λv h'=>v=.aw/\Bn h0 h' B bD R bE L W S (QB kind rs cs s):=by
 have ll:(s.lr++s.wa).length<=cs.length:=by
  have:=w.nd.length_le_of_subset λp hp=>fO.mpr<|w.mem p hp
  rwa [mY]at this
 rw[ZM]at ll;have cn:=g.n;have F:=w.let;have n1:=D9 (cs:=cs) ne;rw[Jg8];calc ak<|ae<|Qg<|Xd rfl b.b bn1 (Jgc _) (Jf rfl (WR.mono (J69 (k:=k+2) g (λp hp=>w.mem p<|iL _ hp) (Zb (Zb ll cn)<|Zd _ 800) ne b) ?_));rintro _ I ⟨rfl,C⟩;have o1:=g.o.kp C.x.kp;unfold QB;have P:(aX cs s).sr.length<100000:=sl;generalize aX cs s=m at *;calc ae (ao<|Jpm o1 (au rfl C.b MW) (by rw[show ∀(a b c:E1)(U:aE),Jb a (Jb b<|Jb c Je) U I=(a U I).bind λx I=>((Jb b<|Jb c Je) U I).bind λxs Y=>.ok (x::xs) Y from λ_ _ _ _=>rfl,au rfl C.b yy];show congrArg (λr=>Res.bind r _)<|ag (au rfl C.b uZ)<|au rfl C.b yz)<|WR.mono (J03 (k:=k) (C.x.get g.p1) o1 g.l6 g.c (C.x.get g.r) C.w C.d F.ld n1 λp hp=>F.mem p<|Zt _ hp) ?_);rintro _ Y ⟨p,hp,rfl,lm,x2⟩;have ep:=VA.eq #[hp,lm];have E:=F.mem p<|Zt _ hp;have ld:=F.ld;have J:=C.ex x2;calc ae<|ao<|Xd rfl J.b bn2 (Jdv _) (Jf (ah rfl)<|WR.mono (J78 (k:=k+2) g (λq hq=>F.mem q<|iL _ hq) J E ld) ?_);rintro _ h3 ⟨rfl,x3⟩;have O:=J.ex x3;unfold yw;rw[ep];generalize Qe rs cs m p=n;calc ae<|Qg<|Xd rfl O.b bn3 (Ji7 _) (Jf (ag rfl (aO (au rfl O.b sV) rfl))<|WR.mono (J77 (k:=k+4) O P) ?_);rintro _ h4 ⟨rfl,Q⟩;calc ae (J8i rfl Q.b sV rfl Q.b (by change(7:Nat)<1000;decide) ?_);rw[MX];have H:=Q.u6<|m.t+n;calc ae (J8j (au rfl H.b yz) rfl H.d (Ef (by change p<m.ds.length;show Zb E<|Zg ld.symm)) (iM _) rfl H.d (j:=p) (by rw[Zn];simp[ki];show Zb E<|Zg ld.symm) ?_);have D:=H.Ed<|m.ds.set p<|m.ds.getD p 0+n;rw[<-List.map_set];refine mG (sT (aQ (au rfl D.b yz) rfl D.d (Ef<|by rw[qn];show Zb E<|Zg ld.symm))<|aq (aQ (au rfl D.b yy) rfl (D.x.get g.r) (Xy E)) rfl Vb) (λc=>?_) λc=>?_
 .rw[Y3,if_pos #[rfl,Zb E<|Zg ld.symm]]at c;have X:m.wa.map nI=(m.wa.map λn:Nat=>(n:Int)).map .int:=by rw[d0];rfl
  have V:=D.w;obtain⟨j,hj⟩:∃j,(m.wa.map λn:Nat=>(n:Int)).findIdx? (· ==(p:Int))=M j:=by cases z:(m.wa.map λn:Nat=>(n:Int)).findIdx? (· ==(p:Int))with|none=>have:=EU.mp z p<|ZS.mpr #[p,hp,rfl];simp at this|some j=>show#[j,rfl]
  calc Qg (QD (au rfl D.b uZ) V Jq6<|Jf (ah rfl)<|DJ (by rw[<-X];show V) hj #[rfl,?_]);have b7:=D.u7<|m.wa.erase p;unfold kO;rw[if_pos<|show _=cZ cs p from c,<-X,M0,Jr2 hj];show b7
 .rw[Y3,if_pos #[rfl,Zb E<|Zg ld.symm]]at c;calc ax #[rfl,?_];unfold kO;rw[if_neg<|show ¬_=cZ cs p from c];show D
end
end
section
seal L4.run
section
variable{bD R bE L W S:Nat}
theorem bp0:bG "order" (.ref bD) ([]:Wn)=(cM bD 0 0 0 0 0 0).take 1:=02
theorem bp1:bG "row" (.ref R) ((cM bD 0 0 0 0 0 0).take 1)=(cM bD R 0 0 0 0 0).take 2:=02
theorem bp2:bG "dones" (.ref bE) ((cM bD R 0 0 0 0 0).take 2)=(cM bD R bE 0 0 0 0).take 3:=02
theorem bp3:bG "later" (.ref L) ((cM bD R bE 0 0 0 0).take 3)=(cM bD R bE L 0 0 0).take 4:=02
theorem bp4:bG "waiting" (.ref W) ((cM bD R bE L 0 0 0).take 4)=(cM bD R bE L W 0 0).take 5:=02
theorem bp5:bG "turn" (.int 0) ((cM bD R bE L W 0 0).take 5)=(cM bD R bE L W 0 0).take 6:=02
theorem bp6:bG "stretches" (.ref S) ((cM bD R bE L W 0 0).take 6)=cM bD R bE L W 0 S:=02
end
theorem M3:∀{ys:Tw}{ks:To},(∀y∈ys,mk y h=.ok (.int<|kf y) h)->QK mk ys ks h=.ok (ks++ys.map kf) h|[],ks,_=>by simp[QK]|y::ys,ks,q=>by unfold QK;rw[q y 03];change QK mk ys (ks++[kf y]) h=_;rw[M3 λz j=>q z<|Zq _ j];simp
theorem M4:∀p∈iH cs,p<cs.length:=λp hp=>by let#[i,D,rfl]:=ZS.mp hp;have:=VP _ i D;omega
def J4b(cs):(cK (cs.map dg).reverse cs.length).map (λi=>(aZ 0 (cs.length:Int)).reverse.getD i .aw)=(iH cs).map nI:=by
 unfold iH;rw[d0];refine si λi D=>?_
 have j:=VP _ i D;rw[XQ];have l2:i<(((cO cs.length).map λk=>((k:Nat):Int)).map IV.int).reverse.length:=by simpa using j
 rw[m6,Z0,Zh l2,List.getElem_reverse];simp
def M5(cs):(iH cs).Perm (cO cs.length):=by
 by_cases n0:cs.length=0
 .unfold iH;rw[n0,Hu];show .refl _
 have:=(Um (cs.map dg).reverse<|lD n0).map λi=>cs.length-1-i
 calc this.trans ?_;have e:(cO cs.length).map (λi=>cs.length-1-i)=(cO cs.length).reverse:=by
  refine kZ 03 λi k j=>?_
  simp
 rw[e];show vI _
def J0j(cs):(iH cs).Pairwise λp q=>aS cs p<=aS cs q:=by
 unfold iH;rw[tN];calc(Up (cs.map dg).reverse cs.length).imp_of_mem λ{i j} D B h=>?_;have k:=VP _ i D;have m:=VP _ j B;have e:∀i,i<cs.length->(cs.map dg).reverse.getD i 0=aS cs (cs.length-1-i):=λi k=>by
  have l2:i<(cs.map dg).reverse.length:=by simpa using k
  unfold aS;rw[Z0,Zh l2,List.getElem_reverse,Z0,Zh<|show cs.length-1-i<cs.length by omega];simp
 rwa [e i k,e j m]at h
def M7(l1:∀c∈cs,1<=c.len):Wf cs (s0 cs):=by
 have k:∀p,((s0 cs).ds.getD p 0:Int)=0:=λp=>by change(cs.map λ_=>(0:Int)).getD p 0=0;rw[Z0,ZI];cases cs[p]?<;>rfl
 have pm:=M5 cs;refine#[by simp[s0],λp hp=>?_,?_,J0j cs,λp hp=>?_,λp j hp=>?_,λp hp=>k p,λp hp=>?_]
 .rw[show(s0 cs).lr++(s0 cs).wa=iH cs from lL _]at hp;show M4 p hp
 .rw[show(s0 cs).lr++(s0 cs).wa=iH cs from lL _];show pm.nodup_iff.mpr tO
 .rw[show(s0 cs).lr++(s0 cs).wa=iH cs from lL _]at hp;have j:=M4 p hp;rw[k];have:1<=cZ cs p:=l1 _<|by simp_all
  lia
 .rw[show(s0 cs).lr++(s0 cs).wa=iH cs from lL _]at hp;show absurd (pm.mem_iff.mpr<|fO.mpr j) hp
 .cases hp
def Wf.step(w:Wf cs s)(ne:¬(s.lr=[]/\s.wa=[])):Wf cs (QB kind rs cs s)/\mL rs cs (QB kind rs cs s)<mL rs cs s:=by have k:=w.let;have m:=MU w;have le:=J0n rs cs s;let#[p,j]:=Eb<|D9 ne;unfold QB yw;rw[j.eq];let#[a,b]:=Ea m (k.z p<|Zt _ j.1).2;have B:=D6 (jL rs cs p) ((aX cs s).ds.getD p 0)<|cZ cs p;show#[k.do j.1 a<|Z8 b B,Zr (J4l k m j.1) le]
def M8(p)(t u)(sr):(VX p t u sr).length<=sr.length+1:=by
 unfold VX;split
 .simp
 .split<;>simp
def M9(h:s.lr=[]/\s.wa=[]):runM kind rs cs m s=s:=by cases m with|zero=>rfl|succ m=>show if_pos h
def va(l6:∀r∈rs,r.2.length<=6)(j:∀c∈cs,c.at_<rs.length):mL rs cs (s0 cs)<=8*cs.length:=by
 have k:((cO cs.length).map<|VG rs cs (s0 cs).ds).sum<=((cO cs.length).map λ_=>6).sum:=yx λp hp=>by
  have B:=fO.mp hp;have ca:(cs.getD p cd).at_<rs.length:=j _<|by simp_all
  have:=l6 _<|Z6 ca;calc Zb (sh _ _) ?_;unfold jL;rw[Q9 ca];show this
 have C:=sh (λp=>decide ((s0 cs).t<aS cs p)) (s0 cs).lr;have m:(s0 cs).lr.length=cs.length:=by have:=(M5 cs).length_eq;rwa [mY]at this
 have D:((s0 cs).lr++(s0 cs).wa).length=cs.length:=by rw[show(s0 cs).lr++(s0 cs).wa=(s0 cs).lr from lL _];show m
 rw[List.map_const',List.sum_replicate_nat,mY]at k;unfold mL;lia
def Jzm:(c6 kind rs cs).sr.length<=8*cs.length:=by
 have:∀(m:Nat)(s:Bs),(runM kind rs cs m s).sr.length<=s.sr.length+m:=by
  intro m;induction m with|zero=>intro s;show Zk _|succ m j=>
   intro s;unfold runM;split
   .show Zd _ _
   .have B:=j<|QB kind rs cs s;have k:(QB kind rs cs s).sr.length<=s.sr.length+1:=M8 _ _ _ _;lia
 have:=this (8*cs.length)<|s0 cs;have e:(s0 cs).sr.length=0:=rfl;unfold c6;lia
def ds0(cs)(p):(s0 cs).ds.getD p 0=0:=by change(cs.map λ_=>(0:Int)).getD p 0=0;rw[Z0,ZI];cases cs[p]?<;>rfl
section
variable{k:Nat}{h:IH}{kind:Int}{rs:Ua}{cs:Ub}{bD R:Nat}
def Jz6(g:Bg h kind rs cs bD R)(t0:h[1]?=M (.tab "Bench.__init__"))(O:cs.length<=200):WR (CC (k+2) [.ref h.length,.ref bD,.ref R]<|h++[.ins "Bench" []]) λv h'=>v=.aw/\∃bE L W S,Bn h h' h.length bD R bE L W S (s0 cs):=by
 have Y:=Jx;rw[Jja];calc ak<|ae<|Qu rfl rfl grown 01 ?_;rw[bp0,YG];calc ae (Qu rfl rfl grown (by change(1:Nat)<1000;decide) ?_);rw[bp1,YG];have I:Ex h (h++[.ins "Bench"<|(cM bD R 0 0 0 0 0).take 2]):=.one _ _;have g1:(h++[IX.ins "Bench"<|(cM bD R 0 0 0 0 0).take 2])[h.length]?=M (.ins "Bench"<|(cM bD R 0 0 0 0 0).take 2):=grown;generalize h++[IX.ins "Bench"<|(cM bD R 0 0 0 0 0).take 2]=C at I g1;calc ae ?_;rw[YS];refine WR.mono (Qt (h:=C) (xs:=cs.map aB) (bK:=λh'=>h'[R]?=M (.lst<|cs.map aB)) (f:=λ_=>.int 0) ?_ (by rw[Zn];show Zb (Zd _ 999800)<|Zb (Zc (Zc O 1) 999800) Y) (λj q=>q _ _<|I.get g.r) λv hv j q=>Jf rfl #[rfl,.refl _]) ?_
 .rw[JC];show Jf rfl ((JM _).mpr #[_,I.get g.r,rfl,rfl,rfl])
 rintro _ _ ⟨rfl,J,rfl⟩;have m:=JF g1;calc Jf rfl #[_,_,_,rfl,grow g1,by change(2:Nat)<1000;decide,?_];rw[bp2];have H:=Q7 (i:=h.length) (o:=.ins "Bench"<|(cM bD R C.length 0 0 0 0).take 3) (I.trans<|Ex.cons C (.lst<|(cs.map aB).map λ_=>.int 0) J)<|Zk _;have g2:=Qd (o':=.ins "Bench"<|(cM bD R C.length 0 0 0 0).take 3)<|grow g1 (g:=.lst ((cs.map aB).map λ_=>.int 0)::J);have d2:=J6 (i:=h.length) (o':=.ins "Bench"<|(cM bD R C.length 0 0 0 0).take 3) (Jz (h:=C) (o:=.lst<|(cs.map aB).map λ_=>.int 0) (g:=J))<|Zw m;generalize C.length=bE at *;generalize (C++IX.lst ((cs.map aB).map λ_=>.int 0)::J).set h.length (.ins "Bench"<|(cM bD R bE 0 0 0 0).take 3)=j at H g2 d2;have ks:QK (λv h'=>X1 (k+1) [M v,M<|.ref R] h') (aZ 0 (cs.length:Int)) [] j=.ok (cs.map dg) j:=by
  have:=M3 (mk:=λv h'=>X1 (k+1) [M v,M<|.ref R] h') (kf:=λv=>match v with|.int p=>aS cs p.toNat|_=>0) (h:=j) (ys:=aZ 0 (cs.length:Int)) (ks:=[]) λy X=>by rw[XQ,m6,d0]at X;let#[p,hp,rfl]:=ZS.mp X;have lp:=fO.mp hp;change X1 (k+1) [M<|nI p,M<|.ref R] j=.ok (.int<|aS cs<|m9 (p:Int)) j;rw[m6];show Jo (ah<|aQ rfl rfl (H.get g.r) (Xy lp)) MR
  rw[this,mZ,XQ,m6,d0,d0];congr 1;refine kZ 03 λi C j=>?_
  have li:i<cs.length:=by simpa using j
  simp![ZN,qm,Function.comp,m6,aS];rw[Z0,Zh li];rfl
 have es:Yy "Bench.__init__" 1 [2] (Jb (aR (aP aT)<|Jb 'c' Je) Je) (X1<|k+1) [M<|.ref h.length,M<|.ref bD,M<|.ref R] j=.ok (.ref j.length) (j++[.lst<|(iH cs).reverse.map nI]):=by unfold Yy;rw[ah<|dD rfl (H.get g.r),Zn];change(match [IV.int (cs.length:Int)],j[1]? with|[.int n],M (.tab q')=>_|_,_=>_)=_;rw[H.get t0];change(if _ then _ else _)=_;rw[if_pos #[rfl,iM _,05]];change(QK (λv h'=>X1 (k+1) [M v,M<|.ref R] h') (aZ 0 (cs.length:Int)) [] j).bind _=_;rw[ks];change YI (aZ 0 (cs.length:Int)).reverse (cs.map dg).reverse j=_;unfold YI;rw[show(aZ 0 (cs.length:Int)).reverse.length=cs.length by rw[nR,XQ];simp,J4b,List.map_reverse]
 calc ae (Qu es rfl (grow g2) (by change(3:Nat)<1000;decide) ?_);rw[bp3];have B:=JF d2;have V:=Q7 (i:=h.length) (o:=.ins "Bench"<|(cM bD R bE j.length 0 0 0).take 4) (H.trans<|Ex.one j<|.lst<|(iH cs).reverse.map nI)<|Zk _;have F:=Qd (o':=.ins "Bench"<|(cM bD R bE j.length 0 0 0).take 4)<|grow g2 (g:=[.lst<|(iH cs).reverse.map nI]);have U:=J6 (i:=h.length) (o':=.ins "Bench"<|(cM bD R bE j.length 0 0 0).take 4) (grow d2 (g:=[.lst<|(iH cs).reverse.map nI]))<|Zw m;have P:=J6 (i:=h.length) (o':=.ins "Bench"<|(cM bD R bE j.length 0 0 0).take 4) (grown (h:=j) (o:=.lst<|(iH cs).reverse.map nI))<|Zw<|Zo<|Zb (Zc m 1) B;generalize j.length=L at *;generalize (j++[IX.lst<|(iH cs).reverse.map nI]).set h.length (.ins "Bench"<|(cM bD R bE L 0 0 0).take 4)=E at V F U P;have D:=JF P;calc ae ?_;rw[YS];calc mF (Jf rfl #[ZF _,Jf rfl #[_,_,_,rfl,grow F,by change(4:Nat)<1000;decide,?_]]);rw[bp4];calc ae (Qu rfl rfl (Qd<|grow F) (by change(5:Nat)<1000;decide) ?_);rw[bp5,vO];unfold LJ;rw[YS];calc mF (Jf rfl #[ZF _,Jf rfl #[_,_,_,rfl,grow<|Qd<|grow F,by change(6:Nat)<1000;decide,rfl,?_]]);rw[bp6];have Q:=grown (h:=E) (o:=.lst []);have lw:=JF Q;rw[ZM,pH]at lw;have ln:(List.set (E++[IX.lst []]) h.length<|.ins "Bench"<|(cM bD R bE L E.length 0 0).take 6).length=E.length+1:=by rw[qn,ZM,pH]
 calc#[bE,L,E.length,_,Q7 ((Q7 (V.trans<|.one _ _)<|Zk _).trans<|.one _ _)<|Zk _,#[Zk _,m,B,D,Zg<|Eq.symm 06],Qd<|grow<|Qd<|grow F,J6 (grow<|J6 (grow ?_)<|Zw m)<|Zw m,J6 (grow<|J6 (grow P)<|Zw<|Zo<|Zb (Zc m 1) B)<|Zw<|Zo<|Zb (Zc m 1) B,J6 (grow<|J6 Q<|Zw<|Zb (Zd _ 2)<|Zb (Zc (Zb (Zc m 1) B) 1) D)<|Zw<|Zb (Zd _ 2)<|Zb (Zc (Zb (Zc m 1) B) 1) D,J6 grown 05];rw[U];simp[s0]
def Nb(g:Bg h kind rs cs bD R)(V:h[1]?=M (.tab "Bench.__init__"))(L:cV rs cs)(E:cs.length<=200):
  WR (xU (k+7) [.ref bD,.ref R] h) λv h'=>∃j,v=.ref j/\h.length<=j/\h'[j]?=M (.lst<|(c6 kind rs cs).sr.reverse.map tupS)/\Ex h h':=by
 let#[Du,I,fd]:=D3 g.o;have H:Wf cs (s0 cs):=M7 λc J=>(L.ok c J).n1
 rw[J3d];calc ak<|ae<|Qg<|xb<|Jf (ag (fd _ _ rfl) rfl)<|WR.mono (J2v (k:=k+1) I g.r L g.n) ?_;rintro _ C ⟨rfl,B⟩;have g1:Bg C kind rs cs bD R:=#[g.o.kp B.kp,B.get g.r,g.c,g.l6,B.get g.p1,g.n];calc ae<|ao ?_;rw[Yc];calc Jf (ag rfl rfl)<|WR.mono (Jz6 (k:=k+4) g1 (B.get V) E) ?_;rintro _ h2 ⟨rfl,X,Q,W,S,b0⟩;calc#[rfl,ae ?_];have O:=va g.l6 g.c;have cn:=g.n;calc yt (λm U h'=>∃s,U=[M<|.ref bD,M<|.ref R,M<|.ref C.length]/\Bn C h' C.length bD R X Q W S s/\Wf cs s/\mL rs cs s<=m/\s.sr.length+m<=8*cs.length/\runM kind rs cs m s=c6 kind rs cs) ?_ (show 8*cs.length<1000000 by lia) #[s0 cs,rfl,b0,H,O,by simp[s0],rfl];rintro m _ h3 ⟨s,rfl,b,w,F,ls,D⟩;refine Jf (fT (aO (dD (au rfl b.b uY) b.l)<|dD (au rfl b.b uZ) b.w) rfl)<|cX (λc=>?_) λc=>?_
 .have ne:¬(s.lr=[]/\s.wa=[]):=λ⟨a,z⟩=>by rw[a,z]at c;show absurd c 03
  let#[P,lt]:=w.step (kind:=kind) (rs:=rs) ne;cases m with|zero=>omega|succ m=>
   calc#[m,rfl,Qg<|Xd rfl b.b bn4 (Jg5 _) (Jf rfl (WR.mono (J6t (k:=k) g1 w ne 05 b) ?_))];rintro _ h4 ⟨rfl,Y⟩;refine#[_,rfl,Y,P,Z5<|Zb lt F,?_,?_]
   .have:=M8 (XL kind rs cs (aX cs s).ds (aX cs s).wa) (aX cs s).t ((aX cs s).t+Qe rs cs (aX cs s) (XL kind rs cs (aX cs s).ds (aX cs s).wa)) s.sr;have:(QB kind rs cs s).sr.length<=s.sr.length+1:=this;lia
   .rw[<-D];show(if_neg ne).symm
 .have ne:s.lr=[]/\s.wa=[]:=by simp at c;show#[vG.mp 05,vG.mp 05]
  rw[M9 ne]at D;refine aj<|Jf (au rfl b.b u5) #[S,rfl,?_,?_,B.trans b.x]
  .have:=b.ap;have:=JF b0.b;let#[gg,rfl]:=B;rw[ZM]at *;lia
  .rw[<-D];show b.s
end
end
abbrev St3:=Nat×Int×Int
abbrev _root_.Tt:=List St3
def cQ(p:Nat)(l:Tt):Int:=(l.map λa=>if a.1=p then a.2.2-a.2.1 else 0).sum
def VW:cQ p (a::l)=(if a.1=p then a.2.2-a.2.1 else 0)+cQ p l:=by simp[cQ]
def Jxc(w:s.lr.Pairwise λp q=>aS cs p<=aS cs q)(j:q∈s.lr):Qe rs cs s p<=aS cs q-s.t:=by
 unfold Qe;cases e:s.lr with|nil=>rw[e]at j;cases j|cons a r=>
  rw[e]at j w;have:aS cs a<=aS cs q:=by
   rcases ZC.mp j with rfl|j
   .show ZO _
   .show(nU.mp w).1 q j
  dsimp only;split<;>lia
def cR(rs:Ua)(cs:Ub)(p:Nat):Int:=jK rs<|cs.getD p cd
def mM(rs:Ua)(cs:Ub)(b d:Int)(f:Nat->Int):Int:=((cO cs.length).map λq=>if b<=aS cs q/\cR rs cs q<=d then f q else 0).sum
theorem Ei{f g:Nat->Int}:∀(l:Tp),(∀q∈l,f q<=g q)->(l.map f).sum<=(l.map g).sum
 |[],_=>ZO _
 |a::l,h=>by
  have:=Ei l λq j=>h q<|Zq _ j
  have:=h a ZA;simp;show tU 06 06
theorem Ej{n:Int}:∀(l:Tp),l.Nodup->p∈l->(∀q∈l,q≠p->g q=f q)->g p=f p+n->(l.map g).sum=(l.map f).sum+n
 |[],_,h,_,_=>by cases h
 |a::l,nd,h,e1,e2=>by
  let#[k,m]:=sj.mp nd;simp;by_cases z:p=a
  .subst z;rw[e2,si λq j=>e1 q (Zq _ j) λe=>k<|e▸j];lia
  .rcases ZC.mp h with h|h
   .show absurd h z
   .rw[Ej l m h (λq j=>e1 q<|Zq _ j) e2,e1 a ZA<|ZV z];lia
def Bz(rs:Ua)(cs:Ub)(s:Bs)(d:Int):Prop:=∃b,(∃c,c<cs.length/\aS cs c=b)/\s.t-b<=mM rs cs b d (λq=>s.ds.getD q 0)/\∀q∈s.wa,cR rs cs q<=d->b<=aS cs q
structure Sv(rs:Ua)(cs:Ub)(s:Bs):Prop where
 tl:∀a r,s.sr=a::r->a.2.2=s.t
 ea:∀a∈s.sr,a.1<cs.length/\aS cs a.1<=a.2.1/\a.2.1<a.2.2/\0<s.ds.getD a.1 0
 pw:s.sr.Pairwise λa b=>b.2.2<=a.2.1
 sm:∀p,p<cs.length->cQ p s.sr=s.ds.getD p 0
 lt:∀p∈s.lr,s.t<=aS cs p
 bz:∀d,(∃q∈s.wa,cR rs cs q<=d)->Bz rs cs s d
 -- who is af is among too much
 ot:∀a∈s.sr,cR rs cs a.1<a.2.2->∃b,(∃c,c<cs.length/\aS cs c=b)/\b<=aS cs a.1/\cR rs cs a.1-b<mM rs cs b (cR rs cs a.1) (cZ cs)
def Sv.step(l1:∀q,q<cs.length->1<=cZ cs q)(w:Wf cs s)(ne:¬(s.lr=[]/\s.wa=[]))(v:Sv rs cs s):Sv rs cs (QB kind rs cs s):=by
 have P:=w.let;have gt:=MU w;have tg:=D8 cs s;let#[p,X]:=Eb (kind:=kind) (rs:=rs) (cs:=cs) (ds:=(aX cs s).ds)<|D9 (cs:=cs) ne;have hp:=X.1;unfold QB yw;rw[X.eq];have E:=P.z p<|Zt _ hp;have Q:=P.mem p<|Zt _ hp;have rp:aS cs p<=bX cs s:=P.rw p hp;let#[n0,n1]:=Ea (rs:=rs) gt E.2;have n2:=λq j=>Jxc (rs:=rs) (p:=p) P.p6 (q:=q) j
 have sl:=D6 (jL rs cs p) (s.ds.getD p 0)<|cZ cs p;generalize Qe rs cs (aX cs s) p=n at n0 n1 n2;have n1:s.ds.getD p 0+n<=QV (jL rs cs p) (s.ds.getD p 0) (cZ cs p):=n1;have n2:∀q∈(aX cs s).lr,n<=aS cs q-bX cs s:=n2;have E:0<=s.ds.getD p 0/\_:=E;have ld:=w.ld;have gd:∀q,(kO rs cs (aX cs s) p n).ds.getD q 0=if p=q then s.ds.getD p 0+n else s.ds.getD q 0:=λq=>by
  change(s.ds.set p _).getD q 0=_;rw[Y3];by_cases e:p=q
  .subst e;rw[if_pos #[rfl,Zb Q<|Zg ld.symm],if_pos rfl];rfl
  .rw[if_neg λz=>e z.1,if_neg e]
 let#[cc,e1,J,e3,_]:=XN cs (bX cs s) s.lr s.wa;have J:(aX cs s).wa=s.wa++cc:=J
 -- who has just ba in is ready just now
 have new:∀q∈s.lr,aS cs q<=bX cs s->aS cs q=bX cs s:=λq j l=>by
  have O:=v.lt q j;unfold bX at l ⊢;split
  .rename_i x xs D el;simp![D,el]at l;have p6:=w.p6;rw[el]at p6 j;have:aS cs x<=aS cs q:=by
    rcases ZC.mp j with rfl|j
    .show ZO _
    .show(nU.mp p6).1 q j
   split at l
   .rw[if_pos 06];show m7 l this
   .rw[if_neg 06];show m7 l O
  .rename_i h;split at l
   .rename_i x xs D el;show absurd el<|h _ _ D
   .show m7 l O
 have sub:∀q∈(kO rs cs (aX cs s) p n).wa,q∈(aX cs s).wa:=λq j=>by
  have j:q∈if s.ds.getD p 0+n=cZ cs p then(aX cs s).wa.erase p else(aX cs s).wa:=j
  split at j
  .show E5 j
  .show j
 -- nobody who waits is aK ahead of p
 have aK:∀q∈(aX cs s).wa,cR rs cs p<=cR rs cs q:=λq j=>by
  have h:=X.2 q j;change da [cR rs cs q,1,(q:Int)] [cR rs cs p,1,(p:Int)]=Zm at h;unfold da at h;by_cases e:cR rs cs q=cR rs cs p
  .show dP e.symm
  .rw[if_neg e,decide_eq_false_iff_not]at h;show dR.mp h
 have nn:∀q,q<cs.length->0<=s.ds.getD q 0/\s.ds.getD q 0<=cZ cs q:=λq H=>by
  by_cases m:q∈s.lr++s.wa
  .have:=w.z q m;show#[this.1,(Z2 this.2)]
  .have h:=w.dn q H m;have z:=l1 q H;lia
 -- the step keeps those aK by d,or ends their time
 have I:∀d,cR rs cs p<=d->∃b,(∃c,c<cs.length/\aS cs c=b)/\b<=aS cs p/\bX cs s+n-b<=mM rs cs b d (λq=>(kO rs cs (aX cs s) p n).ds.getD q 0)/\∀q∈(aX cs s).wa,cR rs cs q<=d->b<=aS cs q:=λd dp=>by
  have add:∀b,b<=aS cs p->mM rs cs b d (λq=>(kO rs cs (aX cs s) p n).ds.getD q 0)=mM rs cs b d (λq=>s.ds.getD q 0)+n:=λb hb=>by
   refine Ej _ tO (fO.mpr Q) (λq _ Y=>?_) ?_
   .dsimp only;rw[gd,if_neg<|ZV Y]
   .dsimp only;rw[gd,if_pos rfl,if_pos #[hb,dp],if_pos #[hb,dp]]
  by_cases h:∃q∈s.wa,cR rs cs q<=d
  .have t0:bX cs s=s.t:=by
    unfold bX;split
    .rename_i D _;let#[q,j,_]:=h;rw[D]at j;cases j
    .rfl
   let#[b,#[c,lc,ec],le,S]:=v.bz d h;have F:∀q∈(aX cs s).wa,cR rs cs q<=d->b<=aS cs q:=λq j k=>by
    rw[J]at j;rcases ZQ.mp j with j|j
    .show S q j k
    .have:=new q (by rw[e1];show iL _ j)<|e3 q j;have:b<=s.t:=by let#[x,hx,V]:=h;have:=S x hx V;have:=w.rw x hx;show Z8 06 this
     lia
   have R:=F p hp dp;calc#[b,#[c,lc,ec],R,?_,F];rw[add b R,t0];lia
  .have nw:∀q∈(aX cs s).wa,cR rs cs q<=d->aS cs q=bX cs s:=λq j k=>by
    rw[J]at j;rcases ZQ.mp j with j|j
    .show absurd #[q,j,k] h
    .show new q (by rw[e1];show iL _ j)<|e3 q j
   have W:=nw p hp dp;calc#[bX cs s,#[p,Q,W],dP W.symm,?_,λq j k=>by rw[nw q j k];show ZO _];rw[add _<|dP W.symm];have:0<=mM rs cs (bX cs s) d (λq=>s.ds.getD q 0):=by
    have z:=Ei (f:=λ_=>0) (g:=λq=>if bX cs s<=aS cs q/\cR rs cs q<=d then s.ds.getD q 0 else 0) (cO cs.length) λq j=>by have:=nn q<|fO.mp j;split<;>lia
    have e0:∀l:Tp,(l.map λ_=>(0:Int)).sum=0:=λl=>by induction l with|nil=>rfl|cons a l ih=>rw[eP,nY,ih];rfl
    rw[e0]at z;show z
   lia
 have same:∀a r,s.sr=a::r->a.1=p->a.2.2=bX cs s:=λa r e z=>by
  have O:=v.tl a r e;have h2:=(v.ea a<|by rw[e];simp).2.2.2;rw[z]at h2;rw[O];unfold bX;split
  .rename_i D el;have hp:p∈(aX cs s).wa:=hp;rw[J,D,mZ]at hp;have:=w.z0 p<|by rw[e1];show iL _ hp
   lia
  .rfl
 have pr:=v.pw;have tl:=v.tl;have ea:=v.ea;have sm:=v.sm;obtain⟨b,r,B,sb,b1,b2,p1,p2,s1,s2⟩:∃b r,VX p (bX cs s) (bX cs s+n) s.sr=(p,b,bX cs s+n)::r/\(∀c∈r,c∈s.sr)/\b<=bX cs s/\aS cs p<=b/\r.Pairwise (λa b=>b.2.2<=a.2.1)/\(∀c∈r,c.2.2<=b)/\cQ p r+(bX cs s-b)=cQ p s.sr/\∀q,p≠q->cQ q r=cQ q s.sr:=by
  cases e:s.sr with|nil=>show#[_,[],rfl,λ_ h=>h,ZO _,rp,.nil,(λ_ h=>by cases h),05,λ_ _=>rfl]|cons a r=>
   rw[e]at pr;let#[q1,q2]:=nU.mp pr;have t1:=tl a r e;have ha:=ea a<|by rw[e];simp
   by_cases z:a.1=p
   .have sa:=same a r e z;show#[a.2.1,r,if_pos z,λ_ h=>Zq _ h,Z2<|ZR ha.2.2.1<|dP sa,by rw[<-z];show ha.2.1,q2,q1,by rw[VW,if_pos z];lia,λq Y=>by rw[VW,if_neg<|by rw[z];show Y];lia]
   .calc#[_,a::r,if_neg z,λ_ h=>h,ZO _,rp,pr,λc C=>?_,05,λ_ _=>rfl];rcases ZC.mp C with rfl|C
    .show Z8 (dP t1) tg
    .have:=q1 c C;show Z2<|ZR (ZR (Z1 this ha.2.2.1)<|dP t1) tg
 have B:(kO rs cs (aX cs s) p n).sr=(p,b,bX cs s+n)::r:=B;refine#[λa r' z=>?_,λa ha=>?_,by rw[B];show nU.mpr #[p2,p1],λq H=>?_,λq j=>?_,λd ⟨q,j,k⟩=>?_,λa ha U=>?_]
 .rw[B]at z;cases z;rfl
 .rw[B]at ha;rw[gd];rcases ZC.mp ha with rfl|ha
  .show#[Q,b2,by change b<bX cs s+n;show tU 06 06,by rw[if_pos rfl];show Z1 E.1<|jy _ n0]
  .have:=ea a<|sb a ha;calc#[this.1,this.2.1,this.2.2.1,?_];split<;>(first|show Z1 E.1 (jy _ n0)|show this.2.2.2|lia)
 .rw[B,gd,VW];by_cases z:p=q
  .subst z;rw[if_pos rfl,if_pos rfl,<-sm p H];change bX cs s+n-b+_=_;lia
  .rw[if_neg z,if_neg z,s2 q z,sm q H];lia
 .have:=n2 q j;change bX cs s+n<=_;lia
 .have j:=sub q j;let#[b,C,_,le,S]:=I d<|Z8 (aK q j) k;show#[b,C,le,λx hx V=>S x (sub x hx) V]
 .rw[B]at ha;rcases ZC.mp ha with rfl|ha
  .let#[b,C,R,le,_]:=I (cR rs cs p)<|ZO _;have up:mM rs cs b (cR rs cs p) (λq=>(kO rs cs (aX cs s) p n).ds.getD q 0)<=mM rs cs b (cR rs cs p) (cZ cs):=Ei _ λq j=>by
    have:=nn q<|fO.mp j;dsimp only;rw[gd];split
    .split
     .rename_i e;subst e;show Z8 n1 sl
     .show this.2
    .lia
   have U:cR rs cs p<bX cs s+n:=U;show#[b,C,R,05]
  .show v.ot a (sb a ha) U
theorem Nc(I:Bs->Prop)(step:∀s,Wf cs s->¬(s.lr=[]/\s.wa=[])->I s->I (QB kind rs cs s)):∀(m:Nat)(s:Bs),Wf cs s->mL rs cs s<=m->I s->Wf cs (runM kind rs cs m s)/\(runM kind rs cs m s).lr=[]/\(runM kind rs cs m s).wa=[]/\I (runM kind rs cs m s)
 |m,s,w,lm,i=>by
  by_cases ne:s.lr=[]/\s.wa=[]
  .rw[M9 ne];show#[w,ne.1,ne.2,i]
  .let#[j,lt]:=w.step (rs:=rs) ne;cases m with
   |zero=>lia
   |succ m=>rw[show runM kind rs cs (m+1) s=runM kind rs cs m (QB kind rs cs s)from if_neg ne];show Nc I step m _ j (Z5<|Zb lt lm)<|step s w ne i
def Ek(L:cV rs cs)(six:∀r∈rs,r.2.length<=6):Sv rs cs (c6 kind rs cs)/\∀p,p<cs.length->cQ p (c6 kind rs cs).sr=cZ cs p:=by
 have cm:∀p,p<cs.length->yp rs (cs.getD p cd):=λp j=>L.ok _<|by simp_all
 have m:=M7 λc k=>(L.ok c k).n1
 have E:=Nc (kind:=kind) (Sv rs cs) (λs w ne v=>v.step (λq F=>(cm q F).n1) w ne) (8*cs.length) (s0 cs) m (va six λc k=>(L.ok c k).at_) #[(λa r e=>by cases e),(λa ha=>by cases ha),.nil,(λp j=>(ds0 cs p).symm),(λp hp=>by have:=cm p<|m.mem p<|iL _ hp;have I:=this.ba;have J:=this.l0;change(0:Int)<=(cs.getD p cd).ba+(cs.getD p cd).af;show vQ 06 06),(λd ⟨q,H,_⟩=>by cases H),λa ha=>by cases ha];let#[C,el,D,B]:=E;calc#[B,λp j=>?_];rw[show cQ p (c6 kind rs cs).sr=_ from B.sm p j];show C.dn p j<|by rw[el,D];simp
section
seal L4.run L4.WS
def bZ(p:Nat):Tt->Wy|[]=>Z|a::l=>match bZ p l with|some e=>M e|none=>if a.1=p then M a.2.2 else Z
theorem yB:∀{l:Tt},bZ p (l++[a])=if a.1=p then M a.2.2 else bZ p l
 |[]=>by simp[bZ]
 |b::l=>by
  rw[j8,bZ,yB,bZ];by_cases e:a.1=p
  .rw[if_pos e,if_pos e]
  .rw[if_neg e,if_neg e]
def Nd{l:Tt}(e:l[n]?=M a):bZ p (l.take<|n+1)=if a.1=p then M a.2.2 else bZ p (l.take n):=by have hn:=(Zs.mp e).1;rw[pG hn,yB,(Zs.mp e).2]
def Jxb:cQ p (l++m)=cQ p l+cQ p m:=by simp[cQ]
theorem Nf:∀{l:Tt},cQ p l.reverse=cQ p l|[]=>rfl|a::l=>by rw[nV,Jxb,Nf,VW,VW];change _+(_+0)=_;lia
theorem Ng:∀{l:Tt},bZ p l=Z->cQ p l=0
 |[],_=>rfl
 |a::l,e=>by
  rw[bZ]at e;cases q:bZ p l with
  |some z=>rw[q]at e;cases e
  |none=>
   rw[q]at e;by_cases ea:a.1=p
   .simp[ea]at e
   .rw[VW,Ng q,if_neg ea];rfl
def Q0(kind:Int)(rs:Ua)(cs:Ub):To:=(cO cs.length).map λp=>(bZ p (c6 kind rs cs).sr.reverse).getD 0
def Nh(L:cV rs cs)(six:∀r∈rs,r.2.length<=6):(∀a∈(c6 kind rs cs).sr.reverse,a.1<cs.length)/\(∀p,p<cs.length->(bZ p (c6 kind rs cs).sr.reverse).isSome=Zl)/\(c6 kind rs cs).sr.reverse.length<=8*cs.length:=by let#[m,sm]:=Ek L six;have k:=Jzm (kind:=kind) (rs:=rs) (cs:=cs);calc#[λa ha=>(m.ea a<|nW.mp ha).1,λp j=>?_,by rw[nR];show k];cases q:bZ p (c6 kind rs cs).sr.reverse with|some z=>rfl|none=>have z:=Ng q;rw[Nf,sm p j]at z;have n1:=(L.ok (cs.getD p cd)<|by simp_all).n1;unfold cZ at z;lia
def Jwo(kvs)(k)(v):(putD kvs k v).length<=kvs.length+1:=by unfold putD;split<;>simp
def rB(ss:Tt)(v:IV):IV:=match v with|.int x=>.int<|(bZ x.toNat ss).getD 0|_=>.aw
def Jvd(ss)(n:Nat):(aZ 0 (n:Int)).map (rB ss)=((cO n).map λp=>(bZ p ss).getD 0).map .int:=by
 rw[d0];refine kZ (by rw[Zn,JQ,Zn,mY];rfl) λi j k=>?_
 rw[ZN,QA,ZN,qm];simp[rB]
section
variable{k:Nat}{h:IH}{kind:Int}{rs:Ua}{cs:Ub}{bD R:Nat}
def Jzj(g:Bg h kind rs cs bD R)(t0:h[1]?=M (.tab "Bench.__init__"))(L:cV rs cs)(E:cs.length<=200):
  WR (CJ (k+8) [.ref bD,.ref R] h) λv h'=>∃j,v=.ref j/\h.length<=j/\h'[j]?=M (.lst<|(Q0 kind rs cs).map .int)/\Ex h h':=by
 have W:=Jx;let#[_,sp,X]:=Nh L g.l6;rw[Jzr];calc ak<|ae<|ao<|Jf rfl (ae<|dO ?_);rw[JC];have C:Ex h (h++[IX.aV []]):=.one _ _;have g1:(h++[IX.aV []])[h.length]?=M (.aV []):=grown;have l1:(h++[IX.aV []]).length=h.length+1:=03;generalize h++[IX.aV []]=hA at C g1 l1;calc xb<|Jf (ag rfl rfl)<|WR.mono (Nb (k:=k) #[g.o.kp C.kp,C.get g.r,g.c,g.l6,C.get g.p1,g.n] (C.get t0) L E) ?_;rintro _ h2 ⟨F,rfl,lF,I,H⟩;unfold Q0;generalize (c6 kind rs cs).sr.reverse=B at sp X I ⊢;calc(JM _).mpr #[_,I,?_];have O:=H.get<|C.get g.r;have Y:=JF g.r;refine JZ (λn U h'=>∃a m,U=[M<|.ref bD,M<|.ref R,M<|.ref h.length,a]/\h'[h.length]?=M (.aV m)/\m.length<=n/\i9 h.length h2 h'/\∀p:Nat,aW m (.inl (p:Int))=(bZ p<|B.take n).map .int) (λn U h' ⟨_,_,_,_,_,D,_⟩=>D _ _ (dH<|Zb (Zg l1.symm) lF) I) ?_ ?_ #[_,[],rfl,H.get g1,Zk _,λ_ _ _ e=>e,λp=>rfl]
 .rintro n hn _ h3 ⟨a,m,rfl,gd,ld,D,ev⟩;have hn:n<B.length:=by simpa using hn
  have en:=Zh hn;have st:∀p,bZ p (B.take<|n+1)=_:=λp=>Nd en
  rw[ZN];generalize B[n]=b at en st;calc d4 rfl ((Yf ..).mpr<|Jf (aq rfl rfl Ql) ?_);rw[D1];calc Jf rfl (Jf (aq rfl rfl Qa) ?_);rw[D2 gd 05];calc#[_,_,rfl,Qd gd,Zb (Jwo ..)<|nJ 06,λj o Q e=>J6 (D j o Q e)<|ZV Q,λp=>?_];rw[DZ,st,ev];by_cases e:b.1=p
  .rw[if_pos e,if_pos<|by rw[e]];rfl
  .rw[if_neg e,if_neg λz=>e (by cases z;rfl)]
 .rintro _ V ⟨a,m,rfl,gd,ld,D,ev⟩;rw[Zn,vL]at ev;have J:=D _ _ (show R≠h.length by show Zw Y) O;have S:Ex h V:=X8 λj o e=>D j o (by have:=JF e;show Zw this)<|H.get<|C.get e
  refine aj (WR.mono (Qt (h:=V) (xs:=aZ 0 (cs.length:Int)) (f:=rB B) ?_ (by rw[JQ];show Zb (Zd _ 999800)<|Zb (Zc (Zc E 1) 999800) W) (λ_ _=>trivial) ?_) ?_)
  .rw[Vs];calc Jf (ah<|dD rfl J) ?_;rw[Ye,Zn];show#[05,rfl,rfl,rfl]
  .intro x hx h5 q;let#[n,hn,rfl]:=gG.mp hx;rw[QA,show(0+(n:Int))=(n:Int) by show m8 _ _];rw[JQ]at hn;have P:=sp n 06;cases eq:bZ n B with|none=>rw[eq]at P;cases P|some e=>have ev:=ev n;rw[eq]at ev;unfold LM;calc Jf ((aD rfl rfl).trans<|Js<|by rw[D0 (q _ _ gd) ev];show#[rfl,rfl]) #[?_,.refl _];change _=IV.int ((bZ (m9 n) B).getD 0);rw[show m9 (n:Int)=n by rfl,eq];rfl
  .rintro _ _ ⟨rfl,gg,rfl⟩;show#[_,rfl,S.len,by rw[Jz,Jvd],S.trans<|.cons _ _ _]
def VN(kind:Int)(rs:Ua)(cs:Ub):To:=((cO cs.length).filter λp=>decide (jK rs (cs.getD p cd)<(Q0 kind rs cs).getD p 0)).map λ(n:Nat)=>(n:Int)
def Nj(cs:Ub)(n:Nat):IV:=.tup [.int (n:Int),aB<|cs.getD n cd]
def yC(cs):Qn 0 (cs.map aB)=(cO cs.length).map (Nj cs):=by
 refine pL λi=>?_
 rw[Y0,ZI,ZI];by_cases j:i<cs.length
 .rw[tL j];simp[Nj,j]
 .simp_all
noncomputable def bW (v:IV):aE:=match v with|.tup [i,c]=>[M i,M c]|_=>[]
def fsE(v:IV):IV:=match v with|.tup [i,_]=>i|_=>.aw
def J66(kind:Int)(rs:Ua)(cs:Ub)(v:IV):Bool:=match v with|.tup [.int i,_]=>decide (jK rs (cs.getD i.toNat cd)<(Q0 kind rs cs).getD i.toNat 0)|_=>Zm
def Jzi(hn:n<cs.length):bq ((Q0 kind rs cs).map IV.int) (n:Int)=M (.int<|(Q0 kind rs cs).getD n 0):=by
 have l:n<(Q0 kind rs cs).length:=by simpa[Q0]using hn
 show JI<|by simp_all
def Jti(g:Bg h kind rs cs bD R)(J:h[1]?=M (.tab "Bench.__init__"))(L:cV rs cs)(m:cs.length<=200):
  WR (CK (k+9) [.ref bD,.ref R] h) λv h'=>∃j,v=.ref j/\h.length<=j/\h'[j]?=M (.lst<|(VN kind rs cs).map .int)/\Ex h h':=by
 have F:=Jx;rw[Jr9];calc ak<|ae<|ao<|xb<|Jf (ag rfl rfl)<|WR.mono (Jzj g J L m) ?_;rintro _ V ⟨E,rfl,S,H,C⟩;have B:=C.get g.r;refine aj (WR.mono (Jxh (xs:=Qn 0<|cs.map aB) (st:=bW) (p:=J66 kind rs cs) (f:=fsE) ?_ (by rw[Ve,Zn];show Zb (Zd _ 999800)<|Zb (Zc (Zc m 1) 999800) F) (λD q=>q _ _ B) ?_ ?_ ?_) ?_)
 .rw[Vs];show Jf (ah rfl)<|(B8 _).mpr #[_,B,rfl,rfl,rfl]
 .intro x hx I D l2;rw[yC]at hx;let#[n,_,rfl]:=ZS.mp hx;match I,l2 with|[a,b],_=>show#[rfl,rfl]
 .intro x hx D q;rw[yC]at hx;let#[n,hn,rfl]:=ZS.mp hx;have hn:=fO.mp hn;let#[Du,O,Q]:=D3<|(g.o.kp C.kp).kp q;have P:cs.getD n cd∈cs:=by rw[Z0,Zh hn];show Z6 hn
  calc Jf (fT (aQ rfl rfl (q _ _ H) (Jzi hn))<|Jo (ag (Q _ _ rfl) rfl)<|MS O<|g.c _ P) #[?_,.refl _];change _=decide (jK rs (cs.getD (m9 n) cd)<(Q0 kind rs cs).getD (m9 n) 0);rw[show m9 (n:Int)=n by rfl]
 .intro x hx _ D q;rw[yC]at hx;let#[n,_,rfl]:=ZS.mp hx;show Jf rfl #[rfl,.refl _]
 .rintro _ _ ⟨rfl,U,rfl⟩;calc#[_,rfl,C.len,?_,C.trans<|.cons _ _ _];rw[Jz,yC,List.filter_map,d0,VN,d0];rfl
end
end
theorem Nk:∀{l:Tt}{e:Int},bZ p l.reverse=M e->∃c∈l,c.1=p/\c.2.2=e
 |a::l,e,h=>by
  rw[nV,yB]at h;by_cases z:a.1=p
  .simp_all
  .rw[if_neg z]at h;let#[c,j,q]:=Nk h;show#[c,Zq _ j,q]
theorem Nl:∀{l:Tt},l.Pairwise (λa b=>b.2.2<=a.2.1)->(∀a∈l,a.2.1<a.2.2)->∀a∈l,a.2.2<=(bZ a.1 l.reverse).getD 0
 |b::l,pw,ps,a,ha=>by
  let#[p1,j]:=nU.mp pw;rw[nV,yB];by_cases z:b.1=a.1
  .rw[if_pos z];change _<=b.2.2;rcases ZC.mp ha with rfl|ha
   .show ZO _
   .have:=p1 a ha;have:=ps b ZA;show Z2<|Z1 06 this
  .rw[if_neg z];rcases ZC.mp ha with rfl|ha
   .show absurd rfl z
   .show Nl j (λx hx=>ps x<|Zq _ hx) a ha
theorem Nm:∀{l:Tt}{j:Int},B<=j->l.Pairwise (λa b=>b.2.2<=a.2.1)->(∀a∈l,a.2.1<a.2.2/\B<=a.2.1)->(∀a∈l,a.2.2<=j)->(l.map λa=>a.2.2-a.2.1).sum<=j-B
 |[],j,h,_,_,_=>by change(0:Int)<=_;show Int.sub_nonneg_of_le 06
 |a::l,j,h,pw,q,qu=>by let#[p1,m]:=nU.mp pw;rw[eP,nY];have:=q a ZA;have:=qu a ZA;have:=Nm 05 m (λb k=>q b<|Zq _ k) p1;lia
theorem swap:∀{l:Tt},(∀a∈l,a.1<n)->((cO n).map λq=>cQ q l).sum=(l.map λa=>a.2.2-a.2.1).sum
 |[],_=>by
  have:∀m:Tp,(m.map λq=>cQ q []).sum=0:=λm=>by induction m with|nil=>rfl|cons a m k=>rw[eP,nY,k];rfl
  show this _
 |a::l,h=>by
  rw[eP,nY,<-swap λb j=>h b<|Zq _ j,m8];refine Ej _ tO (fO.mpr<|h a ZA) (λq _ B=>?_) ?_
  .rw[VW,if_neg<|ZV B,tV]
  .rw[VW,if_pos rfl];show m8 _ _
section
variable{kind:Int}{rs:Ua}{cs:Ub}
def Vf(h:n<cs.length):cs.getD n cd=cs[n]:=by rw[Z0,Zh h];rfl
def El(h:n<cs.length):(Q0 kind rs cs).getD n 0=(bZ n (c6 kind rs cs).sr.reverse).getD 0:=by unfold Q0;rw[Z0,ZI,tL h];rfl
def Nn:x∈VN kind rs cs↔∃n:Nat,x=n/\n<cs.length/\cR rs cs n<(Q0 kind rs cs).getD n 0:=by unfold VN;rw[ZS];calc#[λ⟨n,h,e⟩=>?_,λ⟨n,e,k,j⟩=>#[n,lK.mpr #[fO.mpr k,decide_eq_true j],e.symm]];let#[k,j]:=lK.mp h;show#[n,e.symm,fO.mp k,of_decide_eq_true j]
theorem Jt6(L:cV rs cs)(six:∀r∈rs,r.2.length<=6)(hs:∀c∈cs,s<=dg c/\jK rs c<=s+u)(ne:cs≠[])(J:u<(cs.map (·.len)).sum):VN kind rs cs≠[]:=λH=>by
 let#[m,sm]:=Ek L six;have ps:=λa ha=>(m.ea a ha).2.2.1
 have up:∀a∈(c6 kind rs cs).sr,s<=a.2.1/\a.2.2<=s+u:=λa ha=>by
  let#[la,D,_]:=m.ea a ha;have k:=Nl m.pw ps a ha;have j:¬cR rs cs a.1<(Q0 kind rs cs).getD a.1 0:=λz=>by have:=Nn.mpr #[a.1,rfl,la,z];rw[H]at this;cases this
  rw[El la]at j;have I:=hs _<|Z6 la;unfold cR at j;unfold aS at D;rw[Vf la]at j D;lia
 have F:(cs.map (·.len)).sum=((c6 kind rs cs).sr.map λa=>a.2.2-a.2.1).sum:=by
  rw[<-swap λa ha=>(m.ea a ha).1];congr 1;refine kZ 03 λi k j=>?_
  have C:i<cs.length:=by simpa using k
  rw[ZN,ZN,qm,sm i C];change _=(cs.getD i cd).len;rw[Vf C]
 have E:(c6 kind rs cs).sr≠[]:=λz=>by have B:=tM.mpr ne;have:=sm 0 B;rw[z]at this;have:=(L.ok _<|Z6 B).n1;unfold cZ at *;rw[Vf B]at *;have:cQ 0 []=0:=rfl;lia
 let#[a,ha]:=List.exists_mem_of_ne_nil _ E;have k:=up a ha;have j:=ps a ha;have:=Nm (Z2<|ZR (Z1 k.1 j) k.2) m.pw (λa ha=>#[ps a ha,(up a ha).1]) λa ha=>(up a ha).2
 lia
def Jzn(L:cV rs cs)(six:∀r∈rs,r.2.length<=6)(hn:n<cs.length)(lt:cR rs cs n<(Q0 kind rs cs).getD n 0):∃b,(∃c,c<cs.length/\aS cs c=b)/\b<=aS cs n/\cR rs cs n-b<mM rs cs b (cR rs cs n) (cZ cs):=by let#[k,_]:=Ek L six;let#[_,sp,_]:=Nh L six;have sp:=sp n hn;rw[El hn]at lt;cases q:bZ n (c6 kind rs cs).sr.reverse with|none=>rw[q]at sp;cases sp|some e=>rw[q]at lt;let#[c,j,rfl,rfl]:=Nk q;show k.ot c j lt
end
section
seal L4.run L4.WS L4.WR
theorem J3f(len):jd len []:=#[ZF _,(λa h=>by cases h),λm n _ hn=>absurd hn<|mT _]
inductive Np(h:IH)(S:Nat)(x c unit:Int)(n:Nat):aE->IH->Prop|mk {ys:Tw}{rs:Ua}{g:IH}{a3 a4 a5 a6 a7 a8 a9 a10:Te}(w:bu (h++.lst ys::g) h.length ys rs) (ln:rs.length=n) (bE:Dr c unit rs) (no:∀r∈rs,r.2=[]):Np h S x c unit n [M (.ref S),M (.int x),M (.ref h.length),a3,a4,a5,a6,a7,a8,a9,a10] (h++.lst ys::g)
theorem Nq{n:Int}(h:n.natAbs<=100):n.natAbs.log2<9000:=yj h 01
def Jzo(gS:h[S]?=M (.lst ys))(w:bu h lo ys rs)(bE:Dr c unit rs)(bR:rs.length<=5):
  WR (Dv (k+1) [.ref S,.int x] h) λv h'=>Ex h h'/\∃V I E C,v=.ref V/\h'[V]?=M (.lst E)/\bu h' I E C/\Dr c unit C/\C.length<=5/\∀r∈C,r.2=[]:=by
 have Y:=Jx;have O:=w.len;rw[Jee];calc ak<|ae<|ao<|Jf (cu rfl rfl)<|ae<|mI (n:=ys.length) (dD rfl (grow gS)) (Zb (Zb (Zc (Zg O) 1)<|Zc bR 1)<|Zd _ 999994) ?_;refine JZ (Np h S x c unit) (λ_ _ _ _=>trivial) ?_ ?_ (.mk (ys:=[]) (rs:=[]) (g:=[]) #[rfl,λi y r a b=>by simp at a] rfl #[bE.u1,bE.u2,03,rfl] 03)
 .rintro n hn _ _ (@⟨zs,qs,g,a3,a4,a5,a6,a7,a8,a9,a10,w',ln,D',no⟩);rw[QA];rw[JQ]at hn;have D:n<rs.length:=jq 06 06;rw[show(0+(n:Int))=(n:Int) by show m8 _ _];let#[q,R,_]:=w.get<|Zh D;have f:=bE.f _<|Z6 D;have nm:(rs[n]).1.name=wd c n:=by have:=congrArg (·[n]?) bE.nm;simpa[D]using this
  generalize rs[n]=r at R f nm;have ay:=JI R;have P:Ex h (h++IX.lst zs::g):=.cons _ _ _;have X:(h++IX.lst zs::g)[h.length]?=M (.lst zs):=Jz;have lz:=w'.len;let#[m,hm,em]:=pk (n:=5) (y:=x/(5*(n:Int)+1)) [0,1,-1,2,0-r.1.gap/64] rfl 01;have g1:=f.g1;have u1:=bE.u1;have hm:m<=2:=by have:0<=r.1.gap/64:=k7 (Z8 (Z2 06) 06) 01;simp at hm;rcases hm with rfl|rfl|rfl|rfl|rfl<;>lia
  have e5:∀{U:aE}{H:IH},Ja 5 U H=.ok (.int r.1.gap) H->Jb '0' (Jb '1'<|Jb (lg Vo '1')<|Jb '2'<|Jb (Jc JV '0'<|Jc JG 'f'<|eC<|.int 64) Je) U H=.ok [IV.int 0,IV.int 1,IV.int (-1),IV.int 2,IV.int<|0-r.1.gap/64] H:=λe=>dF rfl (dF rfl (dF rfl (dF rfl (dF (dE rfl (JY e rfl 01 01)) rfl))))
  generalize eG:h++IX.lst zs::g=J at *;calc d4 rfl (ae<|(Yf ..).mpr<|Jf (aQ rfl rfl (P.get gS) ay)<|d4 (MM ..)<|ae<|ao<|Jf (uT (e5 rfl) rfl (bT (JY rfl (aO (eE rfl rfl (.inl 01)) rfl) (Z1 (qp 01<|iM _)<|jy _ 01) (Nq 05)) rfl 01) em)<|Qg ?_);have F:Ex J (J++[IX.lst [IV.int 0,IV.int 1,IV.int (-1),IV.int 2,IV.int<|0-r.1.gap/64]]):=.one _ _;generalize J++[IX.lst [IV.int 0,IV.int 1,IV.int (-1),IV.int 2,IV.int<|0-r.1.gap/64]]=h2 at F;calc QD (i:=h.length) rfl (F.get X) VD (Jf (ah<|fF (dF rfl (dF rfl (dF (oZ rfl (aO (JY rfl (dD rfl ((P.trans F).get gS)) 05 (Nq<|Zb (Zb (Zg O) bR)<|Zd _ 95)) rfl))<|dF rfl (dF rfl (dF (cu rfl rfl) rfl))))) rfl)<|jc (grow<|F.get X) (Zb (Zd _ 999996)<|Zb (Zc (Zb (Zb (Zb (Zc (Zg lz) 1)<|Zc (Zg ln) 1) D) bR) 999996) Y) ?_);generalize hL:(if r.1.gap/(ys.length:Int)+m>1 then r.1.gap/(ys.length:Int)+m else 1)=L;have W:1<=L/\L<=r.1.gap+2:=by have:r.1.gap/(ys.length:Int)<=r.1.gap:=Int.ediv_le_self _<|Z8 (Z2 06) 06;rw[<-hL];split<;>(first|show#[(Z2 06),(tU this hm)]|show#[01,(Z2 (Z1 (Z8 u1 g1) (jy _ 01)))]|lia)
  subst eG;let#[g2,rfl]:=F;rw[show h++IX.lst zs::g++g2++[IX.lst []]=h++IX.lst zs::(g++g2++[IX.lst []]) by simp,QS];have kC:i9 h.length (h++IX.lst zs::g) (h++IX.lst (zs++[fJ #[#[r.1.name,r.1.gap,L,r.1.gap,0],[]] (h++IX.lst zs::g++g2).length])::(g++g2++[IX.lst []])):=λj o hj z=>by rw[<-QS (IX.lst zs),iy<|ZV hj,show h++IX.lst zs::(g++g2++[IX.lst []])=h++IX.lst zs::g++g2++[IX.lst []] by simp];show grow<|grow z
  have Q:(h++IX.lst zs::g++g2).length≠h.length:=03;refine .mk ((w'.ym kC).snoc (r:=#[#[r.1.name,r.1.gap,L,r.1.gap,0],[]]) Q ?_) (by simp[ln]) #[bE.u1,bE.u2,λs B=>?_,?_] λs B=>?_
  .rw[<-QS (IX.lst zs),iy<|ZV Q,show h++IX.lst zs::(g++g2++[IX.lst []])=h++IX.lst zs::g++g2++[IX.lst []] by simp];show grown
  .rcases ZQ.mp B with B|B
   .show D'.f s B
   .rw[ZE.mp B];show#[f.g1,f.g2,W.1,W.2,by change 1<=r.1.gap;show Z8 u1 g1,ZO _,ZO _,by change 0<=3*r.1.gap/2;lia,J3f _]
  .rw[j9,D'.nm,ZM,pH,zf,j9,ln];change _++[r.1.name]=_;rw[nm];rfl
  .rcases ZQ.mp B with B|B
   .show no s B
   .rw[ZE.mp B]
 .rintro _ _ (@⟨zs,qs,g,a3,a4,a5,a6,a7,a8,a9,a10,w',ln,D',no⟩);rw[JQ]at ln;show aj<|Jf rfl #[.cons _ _ _,_,_,zs,qs,rfl,Jz,w',D',Zb (Zb (Zg ln)<|Zg O) bR,no]
end
section
seal L4.run L4.WS L4.WR
def cm(s:Int)(d:WD):Int:=if 1<=s then kM (s+d.af) d.gap else 0
def dm(s:Int)(d:WD):Int:=if 0<=s+d.af-d.aK then(s+d.af-d.aK)/d.gap+1 else 0
def dh(ds:Tz)(s:Int):Int:=(ds.map λd=>dm s d*d.len).sum
def ask(ds:Tz)(s:Int):Int:=(ds.map λd=>cm s d*d.len).sum
def bw(ds:Tz)(s:Int):Int:=(ds.map λd=>cm s d).sum
def bL(s:Int)(d:WD):To:=(cO (dm s d).toNat).map λ(t:Nat)=>(t:Int)*d.gap+d.aK-d.af
def fL(ds:Tz)(s:Int):To:=ds.flatMap<|bL s
structure Gw(d:WD):Prop where
 g:0<d.gap
 l:d.gap.natAbs.log2<9000
 n0:1<=d.len
 u:1<=d.aK
 t:0<=d.af
def Vw(g:Gw d)(h:x<=s):0<=dm x d/\dm x d<=dm s d:=by
 have a:=g.g;unfold dm;by_cases q:0<=x+d.af-d.aK
 .rw[if_pos q,if_pos 05];have:=k7 q<|Z2 a;have:=zj a (show x+d.af-d.aK<=s+d.af-d.aK by show Int.sub_le_sub (Int.add_le_add_right h _)<|ZO _);show#[(Z2<|Z1 06<|jy _ 01),(Z1 this<|jy _ 01)]
 .rw[if_neg q];split
  .rename_i j;have:=k7 j<|Z2 a;show#[01,(Z2<|Z1 this<|jy _ 01)]
  .show#[(ZO _),(ZO _)]
def Yv(g:Gw d):0<=cm s d:=by
 have a:=g.g;have c:=g.t;unfold cm kM;split
 .show k7 (Z2<|zi<|Z1 (Z8 06<|m5 c)<|jy _ a)<|Z2 a
 .show ZO _
def Xk(g:Gw d)(s1:1<=s):dm s d<=cm s d:=by
 have a:=g.g;have b:=g.u;have c:=g.t;unfold dm cm kM;split
 .have e:(s+d.af-d.aK)/d.gap+1=(s+d.af-d.aK+d.gap)/d.gap:=by rw[Int.add_ediv_of_dvd_right<|Int.dvd_refl _,Int.ediv_self<|iA a]
  rw[e];show zj a 05
 .show k7 (Z2<|zi<|Z1 (Z8 s1<|m5 c)<|jy _ a)<|Z2 a
theorem VE:∀{ds:Tz},(∀d∈ds,Gw d)->bw ds s<=m->∀d∈ds,cm s d<=m
 |e::ds,G,h,d,hd=>by
  have E:=Yv (s:=s)<|G e ZA;have B:∀{ds:Tz},(∀d∈ds,Gw d)->0<=bw ds s:=λ{ds} G=>by
   induction ds with
   |nil=>show ZO _
   |cons d ds D=>
    have:=Yv (s:=s)<|G d ZA;have:=D λe j=>G e<|Zq _ j
    have:bw (d::ds) s=cm s d+bw ds s:=by simp[bw]
    show vQ 06 06
  have C:=B λe j=>G e<|Zq _ j
  have k:bw (e::ds) s=cm s e+bw ds s:=by simp[bw]
  rcases ZC.mp hd with rfl|hd
  .show Z8 (Z8 (m5 C)<|dP k.symm) h
  .show VE (λe j=>G e<|Zq _ j) (Z8 (Z8 (E8 E)<|dP k.symm) h) d hd
def J27(s1:1<=s)(G:∀d∈ds,Gw d):((fL ds s).length:Int)<=bw ds s:=by
 induction ds with
 |nil=>simp[fL,bw]
 |cons d ds j=>
  have m:=Xk (G d ZA) s1;have D:=(Vw (G d ZA)<|ZO s).1;have B:=j λe k=>G e<|Zq _ k
  have e:(fL (d::ds) s).length=(dm s d).toNat+(fL ds s).length:=by simp[fL,bL]
  have C:bw (d::ds) s=cm s d+bw ds s:=by simp[bw]
  lia
def Em{ds:Tz}(hn:n<ds.length):fL (ds.take<|n+1) s=fL (ds.take n) s++bL s ds[n]:=by unfold fL;rw[pG hn,List.flatMap_append];simp
def J6q(n):(fL (ds.take n) s).length<=(fL ds s).length:=by
 have:fL ds s=fL (ds.take n) s++fL (ds.drop n) s:=by unfold fL;rw[<-List.flatMap_append,tI]
 rw[this,ZM];show Zd _ _
def En(G:Gw d):x∈bL s d↔∃t:Nat,x=(t:Int)*d.gap+d.aK-d.af/\x<=s:=by
 have g:=G.g;unfold bL;rw[ZS];refine exists_congr λt=>?_
 rw[fO];have j:t<(dm s d).toNat↔(t:Int)*d.gap+d.aK-d.af<=s:=by
  unfold dm;by_cases q:0<=s+d.af-d.aK
  .rw[if_pos q];have:=k7 q<|Z2 g;have:=vP (a:=(t:Int)) (b:=s+d.af-d.aK) g
   (rw[Int.lt_toNat,Int.lt_add_one_iff,vP g];constructor<;>intro h<;>lia)
  .rw[if_neg q];have:=qp (iM t)<|Z2 g;lia
 rw[j];show#[λ⟨a,b⟩=>#[b.symm,b▸a],λ⟨a,b⟩=>#[a▸b,a.symm]]
def Eo(G:∀d∈ds,Gw d):x∈fL ds s↔∃d∈ds,∃t:Nat,x=(t:Int)*d.gap+d.aK-d.af/\x<=s:=by unfold fL;rw[List.mem_flatMap];show exists_congr λd=>and_congr_right λhd=>En<|G d hd
def Xj{h h0:IH}{it:I1}{e:E1}{js:Tp}{U:aE}{xs:Tw}{bK:IH->Prop}{f:IV->IV}(k:WR (it U h0) λbB h1=>bB.xs=xs/\bB.bK=bK/\h1=h)(hl:xs.length<sizeLine) (m:∀h2:IH,(∀(j:Nat)(ob:IX),h[j]?=M ob->h2[j]?=M ob)->bK h2) (B:∀x∈xs,∀h2:IH,(∀(j:Nat)(ob:IX),h[j]?=M ob->h2[j]?=M ob)->WR (e (M x::js.map λj=>(U[j]?).join) h2) λv h3=>v=f x/\Ex h2 h3):∃g,Jv it 1 js (aF 0) J2 e U h0=.ok (.ref h.length) (h++.lst (xs.map f)::g):=by let#[v,h3,e,rfl,g,rfl]:=(Qt k hl m B).eq;show#[g,e]
section
variable{k:Nat}{h:IH}{bE:Nat}{O:Tw}{ds:Tz}{s:Int}
def Nr(j:h[w]?=M (.ins "Work"<|ig d.name d.gap d.len d.aK d.af hs))(g:Gw d):xV (k+2) [.ref w,.int s] h=.ok (.int<|cm s d) h:=by calc Js ?_;rw[Jjf];unfold cm;show ak (aj<|oW<|Jf (sS rfl rfl)<|cX (λq=>Jf (Jo (ag (aO rfl (au rfl j mJ))<|au rfl j p5)<|Mu g.g g.l) #[by rw[if_pos q],rfl]) λq=>Jf rfl #[by rw[if_neg q],rfl])
def Ep(j:h[w]?=M (.ins "Work"<|ig d.name d.gap d.len d.aK d.af hs))(g:Gw d):Xf (k+2) [.ref w,.int s] h=.ok (.int<|dm s d) h:=by calc Js ?_;rw[Jpw];unfold dm;show ak (ae<|ao<|Jf (dE (aO rfl (au rfl j mJ))<|au rfl j o4)<|aj<|oW<|Jf (sS rfl rfl)<|cX (λq=>Jf (aO (JY rfl (au rfl j p5) g.g g.l) rfl) #[by rw[if_pos q],rfl]) λq=>Jf rfl #[by rw[if_neg q],rfl])
def rC(hD:h[bE]?=M (.ins "Duty"<|o6 O))(w:dZ h O ds)(hl:ds.length<=20)(C:∀(j:Nat) (d:WD) (hs:Tw) (h2:IH),d∈ds->h2[j]?=M (.ins "Work"<|ig d.name d.gap d.len d.aK d.af hs)->e [M<|.ref j,M<|.int s] h2=.ok (.int<|f d) h2):WR (aR (aP cW) (Jb (Jv (Jq<|Jm "works" 'a') 1 [1] (aF 0) J2 e) Je) [M<|.ref bE,M<|.int s] h) λv h'=>v=.int (ds.map f).sum/\Ex h h':=by
 have W:=Jx;have wl:=w.len;let#[_,X,ev,rfl,J,E,Y,I,V]:=(IS (it:=Jq<|Jm "works" 'a') (js:=[1]) (U:=[M<|.ref bE,M<|.int s]) (λx y _=>∀d∈ds,sU h x d->y=.int (f d)) (by rw[JC];show Jf (au rfl hD o7)<|(YQ _).mpr #[rfl,rfl,rfl]) 05 (λ_ _ _ _ _ z=>z) (λ_ _=>trivial) (by intro x hx h2 k _;let#[d,hd,j,hs,rfl,g]:=w.of hx;calc Jf (C j d hs h2 hd<|k _ _ g) #[.refl _,λS B ⟨j',m,H,Q⟩=>?_];cases H;show(Res.ok.inj<|(C j d hs h2 hd<|k _ _ g).symm.trans<|C j S m h2 B<|k _ _ Q).1)).eq;have R:J=(ds.map f).map IV.int:=by
  refine kZ (by simp_all) λi P h2=>?_
  have D:i<O.length:=05;have F:i<ds.length:=jq 06 06;rw[ZN,ZN];show V i _ _ (Zh D) (Zh P) _ (Z6 F)<|w.at_ i _ _ (Zh D)<|Zh F
 rw[R]at E;show Jf ((eN<|ah ev).trans<|Js<|xI.mpr #[_,E,_,Qz _,rfl,rfl]) #[rfl,X8 I]
variable(hD:h[bE]?=M (.ins "Duty"<|o6 O))(w:dZ h O ds)(hl:ds.length<=20)(G:∀d∈ds,Gw d)
include hD w hl G
def Er(c:bw ds s<=200):WR (Yh (k+3) [.ref bE,.int s] h) λv h'=>v=.int (ask ds s)/\Ex h h':=by rw[Jvi];show ak (aj<|rC hD w hl λj d B m hd g=>eE (Jo (ag rfl rfl)<|Nr g<|G d hd) (au rfl g sP)<|.inl (by have:=Yv (s:=s) (G d hd);have:=VE G c d hd;lia))
def Jrq(c:bw ds s<=200)(s1:1<=s)(xs:x<=s):WR (CM (k+3) [.ref bE,.int x] h) λv h'=>v=.int (dh ds x)/\Ex h h':=by rw[Jr7];show ak (aj<|rC hD w hl λj d B m hd g=>eE (Jo (ag rfl rfl)<|Ep g<|G d hd) (au rfl g sP)<|.inl (by have:=Vw (G d hd) xs;have:=Xk (G d hd) s1;have:=VE G c d hd;lia))
def Nt:WR (xW (k+3) [.ref bE,.int s] h) λv h'=>v=.int (bw ds s)/\Ex h h':=by rw[Jpv];show ak<|aj<|rC hD w hl λj d B m hd g=>Jo (ag rfl rfl)<|Nr g<|G d hd
def J2x(c:bw ds s<=200):WR (CO (k+4) [.ref bE,.int s] h) λ_ h'=>Ex h h':=by rw[Jef];let#[_,B,m,rfl,j]:=(Nt hD w hl G).eq;show ak<|aI (cH (fT (Jo (ag rfl rfl) m) rfl)<|decide_eq_false<|dR.mpr c)<|ax j
omit hD w hl G
def Nu(d:WD):IV->IV|.int x=>.int<|x*d.gap+d.aK-d.af|_=>.aw
def J2o(s)(d):(aZ 0<|dm s d).map (Nu d)=(bL s d).map IV.int:=by
 unfold aZ bL;rw[d0,d0,Int.sub_zero];refine si λt _=>?_
 change IV.int _=IV.int _;rw[tV]
def Jqp(k:e U h=.ok (.ref i) h)(m:h[i]?=M (.lst<|ns.map .int))(j:ns.length<4000):Yz (Jb e Je) U h=.ok (.ref h.length) (h++[.lst<|(Qo<|i7 (Vi ns) ns.length).map .int]):=by unfold Yz Jb Je;rw[k];change(match h[i]? with|some (.lst ys)=>_|_=>_)=_;rw[m];dsimp only;rw[Qz];dsimp only;rw[if_pos j]
def Jne:x∈Qo (i7 (Vi ns) ns.length)↔x∈ns:=by unfold Qo;rw[(y9 _ _).mem_iff,HR,gG];calc exists_congr λj=>#[λ⟨k,e⟩=>#[k,by rw[e];simp[k]],λ⟨k,e⟩=>#[k,by rw[<-e];simp[k]]]
include hD w hl G
def Ju2(c:bw ds s<=200)(s1:1<=s):
  WR (CP (k+5) [.ref bE,.int s] h) λv h'=>∃(i:Nat)(zs:To),v=.ref i/\h'[i]?=M (.lst<|zs.map .int)/\(∀x,x∈zs↔x∈fL ds s)/\Ex h h':=by
 have X:=Jx;have S:=w.len;have lf:=J27 s1 G;let#[_,C,W,E]:=(J2x (k:=k) (s:=s) hD w hl G c).eq;have D:=E.get hD;have R:=w.kp E.kp;rw[Jvj];calc ak<|ae<|Qg<|Jf (Jo (ag rfl rfl) W)<|ae<|ao<|Jf (cu rfl rfl)<|ae<|dO ?_;rw[JC];calc Jf (au rfl (grow D) o7)<|(YQ _).mpr ?_;refine JZ (λn U h'=>∃g a,h'=C++IX.lst ((fL (ds.take n) s).map .int)::g/\U=[M<|.ref bE,M<|.int s,M<|.ref C.length,a]) (λ_ _ _ _=>trivial) ?_ ?_ #[[],Z,rfl,rfl]
 .rintro n hn _ _ ⟨g,a,rfl,rfl⟩;have hn:n<O.length:=hn;have B:n<ds.length:=jq 06 06;let#[j,V,ev,e]:=R.at_ n _ _ (Zh hn)<|Zh B;rw[ev,Em B];have gd:=G _<|Z6 B;have H:=J6q (ds:=ds) (s:=s)<|n+1;rw[Em B,ZM]at H;generalize ds[n]=d at e gd H;generalize fL (ds.take n) s=fs at H;have Q:(aZ 0<|dm s d).length=(bL s d).length:=by rw[JQ];simp[bL]
  have Y:=(Vw gd<|ZO s).1;have lr:=Q;rw[JQ]at lr;have I:(C++IX.lst (fs.map .int)::g)[C.length]?=M (.lst<|fs.map .int):=Jz;have J:(C++IX.lst (fs.map .int)::g)[j]?=M (.ins "Work"<|ig d.name d.gap d.len d.aK d.af V):=grow e;have P:=@Xj (C++IX.lst (fs.map .int)::g) (C++IX.lst (fs.map .int)::g) (dM Qh<|Jb (Jk (Xf<|k+4) []<|Jb 'd'<|Jb 'b' Je) Je) (LO<|k+4) [3] [M<|.ref bE,M<|.int s,M<|.ref C.length,M<|.ref j] (aZ 0<|dm s d) (λ_=>True) (Nu d)
   (by
    rw[Vs];calc Jf (ah<|Jo (ag rfl rfl)<|Ep J gd) ?_;rw[Ye];show#[05,rfl,rfl,rfl]) 05 (λ_ _=>trivial) (by
    intro v hv h2 z;let#[m,hm,rfl]:=gG.mp hv;rw[QA];have g2:=z _ _ J;show Jf (dE (aO (eE rfl (au rfl g2 p5) (.inl 05))<|au rfl g2 o4)<|au rfl g2 mJ) #[rfl,.refl _])
  calc d4 rfl (Qg<|QD rfl I IL ?_);generalize F:Jv _ _ _ _ _ _ _ _=rc at P;let#[g2,rfl]:=P;calc Jf (ah F) ?_;rw[J2o,IP (xs:=fs.map .int) (ys:=(bL s d).map .int) (grow I) Jz<|by rw[Zn,Zn];lia];calc#[g++IX.lst ((bL s d).map .int)::g2,_,?_,rfl];rw[iz,j8,QS,<-j9]
 .rintro _ _ ⟨g,a,rfl,rfl⟩;rw[show(ds.take (ky.xs #[O,λ_=>True]).length)=ds from lJ (by change _<=O.length;show Zg S.symm)];show aj<|Jf (Jqp rfl Jz 05) #[_,_,rfl,grown,λx=>Jne,(E.trans<|.cons _ _ _).trans<|.one _ _]
def J01(c:bw ds s<=200)(s1:1<=s):
  WR (CQ (k+6) [.ref bE,.int s] h) λv h'=>Ex h h'/\((v=.aw/\∀x∈fL ds s,dh ds x<=x)\/∃x∈fL ds s,v=.int x/\x<dh ds x):=by
 let#[_,H,I,i,zs,rfl,F,D,C]:=(Ju2 hD w hl G c s1).eq;rw[Jdz];calc ak<|ae<|dO ?_;rw[JC];calc Jf (Jo (ag rfl rfl) I)<|(JM _).mpr #[_,F,?_];refine JZ (λn U h'=>Ex H h'/\(∃a,U=[M<|.ref bE,M<|.int s,a])/\∀x∈zs.take n,dh ds x<=x) (λ_ _ _ z=>z.1.get F) ?_ ?_ #[.refl _,#[_,rfl],03]
 .rintro n hn _ O ⟨j,⟨a,rfl⟩,no⟩;have B:n<zs.length:=by simpa using hn
  rw[ZN,pG B];have hx:=(D _).mp<|Z6 B;generalize zs[n]=x at hx;let#[_,_,_,_,xs]:=(Eo G).mp hx;let#[_,P,J,rfl,E]:=(Jrq (j.get<|C.get hD) (w.kp (C.trans j).kp) hl G c s1 xs).eq;calc d4 rfl (nG<|Jf (fT (Jo (ag rfl rfl) J) rfl)<|cX (λq=>aj<|Jf rfl #[(C.trans j).trans E,.inr #[_,hx,rfl,q]]) λq=>ax #[j.trans E,#[_,rfl],λy m=>?_]);rcases ZQ.mp m with m|m
  .show no y m
  .rw[ZE.mp m];show dR.mp q
 .rintro _ O ⟨j,⟨a,rfl⟩,no⟩;rw[Zn,lJ<|Zk _]at no;show aj<|Jf rfl #[C.trans j,.inl #[rfl,λx hx=>no x<|(D x).mpr hx]]
end
end
section
seal L4.run L4.WS L4.WR
theorem rise(s1:1<=s)(h:s<=s'):∀ds:Tz,(∀d∈ds,Gw d)->(0<=bw ds s/\bw ds s<=bw ds s')/\(bw ds s=bw ds s'->ask ds s=ask ds s')
 |[],_=>#[#[ZO _,ZO _],λ_=>rfl]
 |d::ds,q=>by
  let#[#[E,F],D]:=rise s1 h ds λx hx=>q x<|Zq _ hx
  have g:=q d ZA;have j:=g.g;have C:=g.t;have n:0<=cm s d:=by unfold cm kM;rw[if_pos s1];show k7 (Z2<|zi<|Z1 (Z8 s1<|m5 C)<|jy _ j)<|Z2 j
  have m:cm s d<=cm s' d:=by unfold cm kM;rw[if_pos s1,if_pos<|Z8 s1 h];show zj j 05
  have B:∀z,bw (d::ds) z=cm z d+bw ds z:=λz=>by unfold bw;rw[eP,nY]
  have k:∀z,ask (d::ds) z=cm z d*d.len+ask ds z:=λz=>by unfold ask;rw[eP,nY]
  rw[B,B,k,k];calc#[#[vQ 06 06,tU 06 06],λe=>?_];have a:cm s d=cm s' d:=05;rw[a,D 05]
def J0m(ns)(q:∀x∈ns,1<=x):∃y,maxD ns (.int 1)=.int y/\1<=y:=by
 unfold maxD;split
 .lia
 .rename_i ne;have j:=tM.mpr ne;have:1<=ns.getD 0 0:=by rw[Z0,Zh j];show q _<|Z6 j
  show#[_,rfl,Z8 this<|xK (λi=>ns.getD i 0) _ 0 j]
def jm(ds:Tz):Int:=match maxD (ds.map (·.aK)) (.int 1)with|.int y=>y|_=>1
def XZ(G:∀d∈ds,Gw d):maxD (ds.map (·.aK)) (.int 1)=.int (jm ds)/\1<=jm ds:=by
 let#[y,e,j]:=J0m (ds.map (·.aK)) λx hx=>by let#[d,hd,rfl]:=ZS.mp hx;show(G d hd).u
 have:jm ds=y:=by unfold jm;rw[e]
 rw[this];show#[e,j]
def jf(ds:Tz):Nat->Int->Int|0,t=>t|m+1,t=>if t<ask ds t/\bw ds (ask ds t)<=200 then jf ds m (ask ds t)else t
theorem Jvf(h:¬(t<ask ds t/\bw ds (ask ds t)<=200)):∀m,jf ds m t=t|0=>rfl|m+1=>if_neg h
structure Fr(ds:Tz)(m:Nat)(t:Int):Prop where
 t1:1<=t
 c:bw ds t<=200
 e:jf ds m t=jf ds 201 (jm ds)
 z:ask ds t<=t\/201<=(m:Int)+bw ds t
def Fr.next(F:Fr ds m t)(G:∀d∈ds,Gw d)(q:t<ask ds t)(c:bw ds (ask ds t)<=200):∃j,m=j+1/\Fr ds j (ask ds t):=by
 have t1:=F.t1;have fc:=F.c;let#[#[B,C],k]:=rise t1 (Z2 q) ds G;have z:=F.z;obtain⟨j,rfl⟩:∃j,m=j+1:=#[m-1,05];calc#[j,rfl,Z2<|Z1 t1 q,c,by rw[<-F.e];show(if_pos #[q,c]).symm,?_];by_cases e:bw ds t=bw ds (ask ds t)
 .have:=k e;show .inl<|dP this.symm
 .lia
abbrev c8(ds:Tz):Int:=jf ds 201<|jm ds
theorem Fr.start(G:∀d∈ds,Gw d)(c0:bw ds (jm ds)<=200):Fr ds 201 (jm ds):=#[(XZ G).2,c0,rfl,.inr (by have:=(rise (XZ G).2 (ZO _) ds G).1.1;lia)]
theorem Fr.stop(F:Fr ds m t)(h:¬(t<ask ds t/\bw ds (ask ds t)<=200)):t=c8 ds:=(Jvf h m).symm.trans F.e
section
variable{k:Nat}{h:IH}{bE:Nat}{O:Tw}{ds:Tz}
inductive Nv(ds:Tz)(bE I:Nat)(h:IH)(m:Nat):aE->IH->Prop|mk {ts:To}{t:Int}{h':IH}(F:Fr ds m t) (g:h'[I]?=M (.lst ((t::ts).reverse.map .int))) (l:m+ts.length<=300) (k:Kp h h'):Nv ds bE I h m [M (.ref bE),M (.ref I),M (.int (ask ds t))] h'
theorem Nw(j:o U h=.ok (.ref I) h)(g:h[I]?=M (.lst<|(t::ts).reverse.map .int)):Jc Jh o (lg Vo '1') U h=.ok (.int t) h:=aQ j rfl g yA
def Jw8(hD:h[bE]?=M (.ins "Duty"<|o6 O))(w:dZ h O ds)(hl:ds.length<=20)(G:∀d∈ds,Gw d)(c0:bw ds (jm ds)<=200):WR (CS (k+4) [.ref bE] h) λv h'=>∃(i:Nat)(ts:To),v=.ref i/\h'[i]?=M (.lst<|(c8 ds::ts).reverse.map .int)/\(1<=c8 ds/\bw ds (c8 ds)<=200)/\Ex h h':=by
 have U:=Jx;have wl:=w.len;rw[Jvm];have S:=@Xj h h (Jq<|Jm "works" 'a') (LP<|k+3) [] [M<|.ref bE,Z,Z] O (λ_=>True) (kK "due" h) (by rw[JC];show Jf (au rfl hD o7)<|(YQ _).mpr #[rfl,rfl,rfl]) (Zb (Zd _ 999980)<|Zb (Zc (Zb (Zc (Zg wl) 1)<|Zc hl 1) 999980) U) (λ_ _=>trivial) (by intro v hv h2 q;let#[d,_,j,hs,rfl,e]:=w.of hv;show Jf (au rfl (q _ _ e) o4) #[by rw[kK,Q8 e,o4];rfl,.refl _]);rw[w.mK (g:=λd=>.int d.aK) λj d hs e=>by rw[kK,Q8 e,o4];rfl]at S;calc ak<|ae<|ao<|mF<|(Jxf ..).mpr<|(xJ ..).mpr ?_;generalize P:Jv _ _ _ _ _ _ _ _=rc at S;let#[V,rfl]:=S;calc Jf (ah P) (Jf rfl #[_,rfl,_,Jz,ds.map (·.aK),by rw[show ds.map (λd=>IV.int d.aK)=(ds.map (·.aK)).map IV.int by rw[d0];rfl];show Qz _,?_]);rw[(XZ G).1];have J:Ex h (h++IX.lst (ds.map λd=>IV.int d.aK)::V):=.cons _ _ _;generalize h++IX.lst (ds.map λd=>IV.int d.aK)::V=C at J;calc Jf rfl #[by change 1<=sizeLine;show mR 06,?_];have F:=Fr.start G c0;generalize jm ds=top at F;have x2:Ex C (C++[IX.lst [IV.int top]]):=.one _ _;have B:=J.trans x2;have g2:(C++[IX.lst [IV.int top]])[C.length]?=M (.lst<|([top]:To).reverse.map .int):=grown;generalize hI:C.length=I at g2;generalize C++[IX.lst [IV.int top]]=h2 at B g2;let#[_,h3,e3,rfl,X]:=(Er (k:=k) (s:=top) (B.get hD) (w.kp B.kp) hl G F.c).eq;have lI:h.length<=I:=hI▸J.len;calc ae<|ao<|Jf (Jo (ag rfl (Nw rfl g2)) e3)<|ae ?_;calc yt (Nv ds bE I h) ?_ (m:=201) 01 (.mk F (X.get g2) (by change 201+0<=300;decide) (B.trans X).kp);rintro m _ h4 (@⟨ts,t,_,F,g,l,k4⟩);have fin:∀{h':IH}{N:aE->IH->Prop},Kp h h'->h'[I]?=M (.lst<|(t::ts).reverse.map .int)->¬(t<ask ds t/\bw ds (ask ds t)<=200)->WS (LQ (k+3) [M<|.ref bE,M<|.ref I,M<|.int<|ask ds t] h') N λv h'=>∃(i:Nat)(ts:To),v=.ref i/\h'[i]?=M (.lst<|(c8 ds::ts).reverse.map .int)/\(1<=c8 ds/\bw ds (c8 ds)<=200)/\Ex h h':=λkp g no=>by have e:=F.stop no;show aj (Jf rfl #[_,ts,rfl,by rw[<-e];show g,by rw[<-e];show#[F.t1,F.c],X8 kp])
 calc DB (Jf (fT rfl (Nw rfl g))<|cX (λq=>?_) λq=>#[(λz=>by cases z),λ_=>fin k4 g λz=>q z.1]);let#[_,Q,e5,rfl,E]:=(Nt (k:=k) (k4 _ _ hD) (w.kp k4) hl G).eq;refine Jf (oY (Jo (ag rfl rfl) e5) rfl)<|cX (λR=>?_) λR=>fin (k4.trans E.kp) (E.get g) λz=>R z.2
 let#[m',rfl,Y]:=F.next G q R;have H:=E.get g;calc#[m',rfl,ae<|Qg<|QD rfl H VD (Jf (ah rfl)<|jc H (by rw[Zn,nR,ji];show Zb (Zd _ 999699)<|Zb (Zc (Zb (Zc (fU _ _) 2)<|Zc l 2) 999699) U) ?_)];have W:(Q.set I<|.lst<|(t::ts).reverse.map IV.int++[.int<|ask ds t])[I]?=M (.lst<|(ask ds t::t::ts).reverse.map .int):=by rw[Qd H,nV (a:=ask ds t),j9];rfl
 have D:Kp h (Q.set I<|.lst<|(t::ts).reverse.map IV.int++[.int<|ask ds t]):=λa o e=>J6 (E.get<|k4 _ _ e) (by have:=JF e;show dH<|Zb this lI)
 generalize Q.set I (.lst<|(t::ts).reverse.map IV.int++[.int<|ask ds t])=h6 at W D;let#[_,h7,e7,rfl,x7]:=(Er (k:=k) (D _ _ hD) (w.kp D) hl G Y.c).eq;show ao (Jf (Jo (ag rfl rfl) e7)<|.mk Y (x7.get W) (by rw[ji];lia)<|D.trans x7.kp)
end
end
section
seal L4.run L4.WS L4.WR
def p7(s:Int)(a:Nat)(d:WD)(x:Int):Cm:=#[a,x,if s-x>0 then s-x else 0,d.len]
noncomputable def Qw (s:Int)(d:WD)(n:Nat):To:=(cO n).map λ(t:Nat)=>s-d.af+(t:Int)*d.gap
def nH(s:Int)(a:Nat)(d:WD)(n:Nat):Ub:=(Qw s d n).map<|p7 s a d
def rows(rs:Ua)(s sp:Int):Nat->Ub|0=>[]|n+1=>rows rs s sp n++nH s n (rs.getD n rd).1 (dm sp (rs.getD n rd).1).toNat
def Es(s)(a)(d)(n):(nH s a d n).length=n:=by simp[nH,Qw]
def Et(e:(nH s a d n)[i]?=M c):i<n/\c=p7 s a d (s-d.af+(i:Int)*d.gap):=by have D:=(Zs.mp e).1;rw[Es]at D;calc#[D,?_];unfold nH Qw at e;rw[ZI,ZI,tL D]at e;show(gJ e).symm
theorem yD:∀n,c∈rows rs s sp n->∃a t:Nat,a<n/\t<(dm sp (rs.getD a rd).1).toNat/\c=p7 s a (rs.getD a rd).1 (s-(rs.getD a rd).1.af+(t:Int)*(rs.getD a rd).1.gap)
 |0,q=>by cases q
 |n+1,q=>by
  rw[rows,ZQ]at q;rcases q with q|q
  .let#[a,t,k,j]:=yD n q;show#[a,t,jO 06,j]
  .let#[i,D,e]:=gG.mp q;show#[n,i,ZY _,Et<|Zs.mpr #[D,e]]
section
variable{rs:Ua}{s sp:Int}(G:∀d∈rs.map (·.1),Gw d)
include G
def Y4(h:n<rs.length):Gw (rs.getD n rd).1:=by rw[Q9 h];show G _<|mX<|Z6 h
theorem Nx:∀n,n<=rs.length->∀(i j:Nat)(a b:Cm),i<j->(rows rs s sp n)[i]?=M a->(rows rs s sp n)[j]?=M b->a.at_=b.at_->∀r,rs[a.at_]?=M r->a.ba+r.1.gap<=b.ba
 |0,_,i,j,a,b,_,ea,_,_,_,_=>by cases ea
 |n+1,hn,i,j,a,b,hij,ea,eb,eab,r,k=>by
  rw[rows]at ea eb;by_cases E:j<(rows rs s sp n).length
  .rw[ZU E]at eb;rw[ZU<|fV 06 06]at ea;show Nx n (Zo 06) i j a b hij ea eb eab r k
  .rw[jS<|ZH E]at eb;let#[H,rfl]:=Et eb;by_cases D:i<(rows rs s sp n).length
   .rw[ZU D]at ea;let#[m,t,B,_,rfl]:=yD n<|tK ea;show absurd (show m=n from eab)<|Zw B
   .rw[jS<|ZH D]at ea;let#[B,rfl]:=Et ea;have k:rs[n]?=M r:=k;have C:rs.getD n rd=r:=by rw[Z0,k];rfl
    have g:=(Y4 G<|show n<rs.length by show hn).g;rw[C]at g;change s-(rs.getD n rd).1.af+_*(rs.getD n rd).1.gap+r.1.gap<=s-(rs.getD n rd).1.af+_*(rs.getD n rd).1.gap;rw[C];obtain⟨m,F⟩:∃m:Nat,j-(rows rs s sp n).length=(i-(rows rs s sp n).length)+1+m:=#[j-i-1,NP (ZH D) hij];rw[F];have:=qp (iM m)<|Z2 g;simp![zk,Int.add_mul];lia
def J06(hs:∀r∈rs,r.1.af<=s):cV rs (rows rs s sp rs.length)/\∀c∈rows rs s sp rs.length,s<=dg c/\jK rs c<=s+sp:=by
 calc#[#[λc k=>?_,Nx G _<|Zk _],λc k=>?_];all_goals
  let#[a,t,ha,j,rfl]:=yD _ k;have f:=Y4 G ha;have g:=f.g;have D:=f.t;have C:=hs _<|Z6 ha;have m:=qp (iM t)<|Z2 g
 .have n0:=f.n0;rw[Q9 ha]at *;refine#[ha,?_,?_,?_,n0,ZO _]
  .change 0<=s-(rs[a]).1.af+(t:Int)*(rs[a]).1.gap;show Z8 (Int.sub_nonneg_of_le C)<|m5 m
  .simp only[p7];split<;>(first|show Z2 06|show ZO _|lia)
  .simp only[p7];split<;>(first|assumption|lia)
 .refine#[?_,?_]
  .simp only[p7,dg];split<;>lia
  .change(s-(rs.getD a rd).1.af+(t:Int)*(rs.getD a rd).1.gap)+(rs.getD a rd).1.aK<=s+sp;unfold dm at j;split at j
   .have B:(t:Int)<=(sp+(rs.getD a rd).1.af-(rs.getD a rd).1.aK)/(rs.getD a rd).1.gap:=00;have:=(vP g).mp B;lia
   .show absurd j<|mT _
theorem J1v(a)(d):∀n,((nH s a d n).map (·.len)).sum=(n:Int)*d.len:=λn=>by unfold nH Qw;rw[d0,d0];change((cO n).map λ_=>d.len).sum=_;rw[List.map_const',mY];induction n with|zero=>simp|succ n j=>rw[y8,nY,j,zk,Int.add_mul];lia
theorem Eu(u1:1<=u)(j:sp<=u):∀n,n<=rs.length->((rows rs s sp n).map (·.len)).sum=dh ((rs.map (·.1)).take n) sp/\((rows rs s sp n).length:Int)<=bw ((rs.map (·.1)).take n) u
 |0,_=>#[rfl,ZO _]
 |n+1,hn=>by
  let#[k,C]:=Eu u1 j n<|Zo 06;have f:=Y4 G (show n<rs.length by show hn);have d1:=Vw f j;have d2:=Xk f u1;rw[rows,j9,List.sum_append,J1v G,k,ZM,Es,pG (by rw[Zn];show hn),ZN,<-Q9 (show n<rs.length by show hn)];generalize (rs.getD n rd).1=d at d1 d2;have m:∀l:Tz,dh (l++[d]) sp=dh l sp+dm sp d*d.len:=λl=>by simp[dh]
  have B:∀l:Tz,bw (l++[d]) u=bw l u+cm u d:=λl=>by simp[bw]
  rw[m,B,sC d1.1];show#[rfl,05]
end
noncomputable def Ew (s:Int)(d:WD)(v:IV):IV:=match v with|.int t=>.int<|s-d.af+t*d.gap|_=>.aw
def Ny(s:Int)(a:Nat)(d:WD)(v:IV):IV:=match v with|.int x=>aB<|p7 s a d x|_=>.aw
section
variable{k:Nat}{h:IH}{s:Int}
def J5o{bE a n:Nat}(hd:cF h bE rs)(ha:a<rs.length)(hn:n<=200):WR (CT (k+2) [.ref bE,.int (a:Int),.int s,.int (n:Int)] h) λv h'=>∃i,v=.ref i/\h'[i]?=M (.lst<|(nH s a (rs.getD a rd).1 n).map aB)/\Ex h h':=by
 have F:=Jx;let#[O,R,w]:=hd;let#[j,Q,m]:=w.get<|Zh ha;rw[Q9 ha];generalize rs[a]=r at m;have J:bq O (a:Int)=M (.ref j):=JI Q;let#[g1,D]:=Xj (it:=dM Qh<|Jb 'd' Je) (js:=[2,4]) (e:=LR<|k+1) (U:=[M<|.ref bE,M<|.int (a:Int),M<|.int s,M<|.int (n:Int),M<|.ref j,Z]) (h0:=h) (h:=h) (xs:=aZ 0 (n:Int)) (bK:=λ_=>True) (f:=Ew s r.1) (by
   rw[Vs];calc Jf (ah rfl) ?_;rw[Ye];show#[05,rfl,rfl,rfl]) (by rw[JQ];show Zb (Zd _ 999800)<|Zb (Zc (Zc hn 1) 999800) F) (λ_ _=>trivial) (by
   intro v hv E q;let#[t,H,rfl]:=gG.mp hv;rw[JQ]at H;rw[QA];show Jf (aO (dE rfl (au rfl (q _ _ m) mJ))<|eE rfl (au rfl (q _ _ m) p5) (.inl<|by(rw[tV];show Zr (Zr H hn) 01))) #[rfl,.refl _])
 have P:(aZ 0 (n:Int)).map (Ew s r.1)=(Qw s r.1 n).map IV.int:=by
  refine kZ (by simp[JQ,Qw]) λi C E=>?_
  rw[ZN,QA];simp[Qw,Ew]
 rw[P]at D;have B:Ex h (h++IX.lst ((Qw s r.1 n).map IV.int)::g1):=.cons _ _ _;have g2:(h++IX.lst ((Qw s r.1 n).map IV.int)::g1)[h.length]?=M (.lst<|(Qw s r.1 n).map IV.int):=Jz;generalize h++IX.lst ((Qw s r.1 n).map IV.int)::g1=C at B g2 D;rw[Jm8];calc ak<|ae<|ao<|Jf (yq R rfl rfl J)<|ae<|ao<|Jf D<|aj ?_;let#[S,I]:=Xj (it:=Jq 'f') (js:=[1,2,4]) (e:=LS<|k+1) (U:=[M<|.ref bE,M<|.int (a:Int),M<|.int s,M<|.int (n:Int),M<|.ref j,M<|.ref h.length]) (h0:=C) (h:=C) (xs:=(Qw s r.1 n).map IV.int) (bK:=λh'=>h'[h.length]?=M (.lst<|(Qw s r.1 n).map IV.int)) (f:=Ny s a r.1) (by rw[JC];show Jf rfl ((JM _).mpr #[_,g2,rfl,rfl,rfl])) (by rw[Zn];simp[Qw];show Zb (Zd _ 999800)<|Zb (Zc (Zc hn 1) 999800) F) (λE q=>q _ _ g2) (by intro v hv E q;let#[x,hx,rfl]:=ZS.mp hv;show Jf (fF (jJ rfl rfl (oZ rfl (dE rfl rfl)) (au rfl (q _ _<|B.get m) sP)) rfl) #[rfl,.refl _]);rw[show((Qw s r.1 n).map IV.int).map (Ny s a r.1)=(nH s a r.1 n).map aB by unfold nH;rw[d0,d0];rfl]at I;show Jf I #[_,rfl,Jz,B.trans<|.cons _ _ _]
def Jtq(hd:cF h bE rs)(bR:rs.length<=12)(G:∀d∈rs.map (·.1),Gw d)(u1:1<=u)(su:sp<=u)(c:bw (rs.map (·.1)) u<=200):
  WR (CU (k+3) [.ref bE,.int sp] h) λv h'=>∃R s,v=.tup [.ref R,.int s]/\(∀r∈rs,r.1.af<=s)/\(∀B,0<=B->(∀r∈rs,r.1.af<=B)->s<=B)/\h'[R]?=M (.lst<|(rows rs s sp rs.length).map aB)/\Ex h h':=by
 have hb:=Jx;have GH:=hd;let#[O,gD,w]:=hd;have wl:=w.len;rw[Jsa];have Q:=@Xj h h (Jq<|Jm "works" 'a') (LU<|k+2) [] [M<|.ref bE,M<|.int sp,Z,Z,Z,Z] O (λ_=>True) (kK "late" h)
  (by rw[JC];show Jf (au rfl gD o7)<|(YQ _).mpr #[rfl,rfl,rfl]) (Zb (Zd _ 999988)<|Zb (Zc (Zb (Zc (Zg wl) 1)<|Zc bR 1) 999988) hb) (λ_ _=>trivial) (by intro v hv H q;let#[d,_,j,hs,rfl,e]:=w.w.of hv;show Jf (au rfl (q _ _ e) mJ) #[by rw[kK,Q8 e,mJ];rfl,.refl _])
 rw[w.w.mK (F:=kK "late" h) (g:=λd=>.int d.af) λj d hs e=>by rw[kK,Q8 e,mJ];rfl]at Q;calc ak<|ae<|ao<|(xJ ..).mpr ?_;generalize P:Jv _ _ _ _ _ _ _ _=rc at Q;let#[W,rfl]:=Q;calc Jf (ah P) (Jf rfl #[_,rfl,_,Jz,rs.map λr=>r.1.af,by rw[show(rs.map (·.1)).map (λd=>IV.int d.af)=(rs.map λr=>r.1.af).map IV.int by rw[d0,d0];rfl];show Qz _,?_]);obtain⟨s,es,s1,s2⟩:∃s,maxD (rs.map λr=>r.1.af) (.int 0)=.int s/\(∀r∈rs,r.1.af<=s)/\∀B,0<=B->(∀r∈rs,r.1.af<=B)->s<=B:=by
  unfold maxD;split
  .rename_i e;rw[List.map_eq_nil_iff]at e;show#[0,rfl,by simp[e],λB h _=>h]
  .rename_i ne;have at_:∀j,j<(rs.map λr=>r.1.af).length->∃h:j<rs.length,(rs.map λr=>r.1.af).getD j 0=(rs[j]).1.af:=λj D=>by rw[Zn]at D;show#[D,by simp[D]]
   refine#[_,rfl,λr hr=>?_,λB _ h=>xM _ _ _ (tM.mpr ne) λj D=>?_]
   .let#[j,D,rfl]:=gG.mp hr;have lj:j<(rs.map λr=>r.1.af).length:=by rw[Zn];show D
    have:=xK (λi=>(rs.map λr=>r.1.af).getD i 0) _ j lj;rw[(at_ j lj).2]at this;show this
   .let#[l,e]:=at_ j D;rw[e];show h _<|Z6 l
 rw[es];have E:Ex h (h++IX.lst ((rs.map (·.1)).map λd=>IV.int d.af)::W):=.cons _ _ _;generalize h++IX.lst ((rs.map (·.1)).map λd=>IV.int d.af)::W=J at E;calc ae<|ao<|Jf (cu rfl rfl)<|ae<|dO ?_;rw[Vs];calc Jf (ah<|au rfl (grow<|E.get gD) o7) ?_;rw[Jxi];refine JZ (λn U h'=>∃V S,U=[M<|.ref bE,M<|.int sp,M<|.int s,M<|.ref J.length,V,S]/\Kp J h'/\h'[J.length]?=M (.lst<|(rows rs s sp n).map aB)) (λ_ _ _ _=>trivial) ?_ ?_ #[Z,Z,rfl,(Ex.one _ _).kp,grown]
 .rintro n hn _ H ⟨V,S,rfl,I,g2⟩;rw[Ve]at hn;rw[B9];have C:n<rs.length:=jq 06 06;let#[j,ej,gj]:=w.get<|Zh C;have ev:O[n]'(hn)=.ref j:=by rw[Zh<|hn]at ej;show gJ ej
  have X:=E.kp.trans I;have f:=Y4 G C;have d1:=Vw f su;have d2:=Xk f u1;have d3:=VE G c _ (mX (f:=(·.1))<|Z6 C);have lr:=(Eu (s:=s) G u1 su n<|Zo 06).2;rw[Q9 C]at f d1 d2;obtain⟨m,Y⟩:∃m:Nat,dm sp (rs[n]).1=(m:Int):=#[_,(sC d1.1).symm];let#[_,h3,e3,i,rfl,g3,x3]:=(J5o (k:=k) (s:=s) (n:=m) (GH.kp X) C 05).eq;rw[ev];have ed:Xf (k+2) [.ref j,.int sp] H=.ok (.int (m:Int)) H:=by rw[<-Y];show Ep (X _ _ gj) f
  have gx:=x3.get g2;have l1:((rs.map (·.1)).take n).length<=12:=by rw[pM,Zn];show Zb (jr _ _) bR
  have l2:(rows rs s sp n).length<=200:=by
   have:∀{l m:Tz},(∀d∈l++m,Gw d)->bw l u<=bw (l++m) u:=λ{l m} q=>by
    induction m with|nil=>rw[lL];show ZO _|cons d m ih=>
     have:=ih λe he=>q e<|by simp at he ⊢;lia
     have:=Yv (s:=u)<|q d 03;simp[bw]at *;lia
   have:=this (l:=(rs.map (·.1)).take n)<|by rw[tI];show G
   rw[tI]at this;lia
  calc d4 rfl (Qg<|QD rfl g2 IL (Jf (ah<|Jo (jJ rfl rfl rfl (Jo (ag rfl rfl) ed)) e3) ?_));rw[IP gx g3<|by rw[Zn,Zn,Es];lia];calc#[_,_,rfl,λi o z=>J6 (x3.get<|I _ _ z) (by have:=JF z;show dH this),?_];rw[Qd gx,rows,<-j9,Q9 C,Y];rfl
 .rintro _ H ⟨V,S,rfl,I,g2⟩;rw[Ve,wl]at g2;show aj<|Jf (fF (ag rfl rfl) rfl) #[_,_,rfl,s1,s2,g2,E.trans<|X8 I]
end
end
section
seal L4.run L4.WS L4.WR
section
variable{k:Nat}{h:IH}
theorem Nz(g:h[i]?=M (.lst xs)):xY (k+1) [.ref i] h=.ok (.ref h.length) (h++[.lst xs]):=Js (by rw[Jm7];show ak<|aj<|oW<|Jf (bH<|fH rfl (by rw[xF g];rfl)) #[λ_=>Jf (DI rfl g) #[rfl,rfl],λz=>by cases z])
abbrev rE(R:Nat)(p d:Int):Wn:=[("row",.ref R),("place",.int p),("turn",.int d)]
theorem kp0:bG "lines" a ([]:Wn)=([("lines",a)]:Wn):=02
theorem bk0:bG "row" a ([]:Wn)=([("row",a)]:Wn):=02
theorem bk1:bG "place" b ([("row",a)]:Wn)=([("row",a),("place",b)]:Wn):=02
theorem bk2:bG "turn" c ([("row",a),("place",b)]:Wn)=([("row",a),("place",b),("turn",c)]:Wn):=02
def Jsy(m:e U h=.ok (.ref i) h1)(g:h1[i]?=M (.lst xs)):WR (Qx "Kept" (xZ<|k+2) [] (Jb e Je) U h) λv h'=>∃bC l,v=.ref bC/\h'[bC]?=M (.ins "Kept" [("lines",.ref l)])/\h'[l]?=M (.lst xs)/\Ex h1 h':=by calc(Yc ..).mpr<|Jf (ah m) ?_;change WR (xZ (k+2) [.ref h1.length,.ref i]<|h1++[.ins "Kept" []]) _;rw[Jld];have j:Ex h1 (h1++[IX.ins "Kept" []]++[.lst xs]):=(Ex.one _ _).trans<|.one _ _;calc ak<|Qu (Jo (ah rfl)<|Nz<|grow g) rfl (grow grown) 01 #[rfl,h1.length,_,rfl,?_,J6 grown 03,Q7 j<|Zk _];rw[kp0];show Qd<|grow grown
def Jra{bE R n:Nat}{rs:Ua}{cs:Ub}(d:cF h bE rs)(g:h[R]?=M (.lst<|cs.map aB))(hn:n<cs.length)(H:(cs.getD n cd).at_<rs.length):WR (C5 (k+3) [.ref bE,.ref R,.int (n:Int)] h) λv h'=>∃bC R',v=.ref bC/\h'[bC]?=M (.ins "Broken"<|rE R' n<|cR rs cs n)/\h'[R']?=M (.lst<|cs.map aB)/\Ex h h':=by rw[Jlh];calc ak<|aj<|(Yc ..).mpr<|Jf (ja rfl rfl (Jo (ag rfl (aQ rfl rfl g (Xy hn)))<|MS d H)) ?_;change WR (C1 (k+2) [.ref h.length,.ref R,.int (n:Int),.int<|cR rs cs n]<|h++[.ins "Broken" []]) _;rw[Jg9];generalize cR rs cs n=O;have F:Ex h (h++[IX.ins "Broken" []]++[.lst<|cs.map aB]):=(Ex.one _ _).trans<|.one _ _;have g1:(h++[IX.ins "Broken" []]++[IX.lst<|cs.map aB])[h.length]?=M (.ins "Broken" []):=grow grown;have E:(h++[IX.ins "Broken" []]++[IX.lst<|cs.map aB])[(h++[IX.ins "Broken" []]).length]?=M (.lst<|cs.map aB):=grown;have ne:h.length≠(h++[IX.ins "Broken" []]).length:=03;calc ak<|ae<|Qu (Jo (ah rfl)<|Nz<|grow g) rfl g1 01 ?_;generalize (h++[IX.ins "Broken" []]).length=R' at ne E;rw[bk0];have B:=Q7 (o:=.ins "Broken" [("row",.ref R')]) F<|Zk _;have g2:=Qd (o':=.ins "Broken" [("row",.ref R')]) g1;have D:=J6 (o':=.ins "Broken" [("row",.ref R')]) E ne;generalize (h++[IX.ins "Broken" []]++[IX.lst<|cs.map aB]).set h.length (.ins "Broken" [("row",.ref R')])=I at B g2 D;calc ae (Qu rfl rfl g2 (by change 1<1000;decide) ?_);rw[bk1];have C:=Q7 (o:=.ins "Broken" [("row",.ref R'),("place",.int (n:Int))]) B<|Zk _;have j:=Qd (o':=.ins "Broken" [("row",.ref R'),("place",.int (n:Int))]) g2;have m:=J6 (o':=.ins "Broken" [("row",.ref R'),("place",.int (n:Int))]) D ne;generalize I.set h.length (.ins "Broken" [("row",.ref R'),("place",.int (n:Int))])=J at C j m;calc Qu rfl rfl j (by change 2<1000;decide) #[rfl,h.length,R',rfl,?_,J6 m ne,Q7 C<|Zk _];rw[bk2];show Qd j
end
structure Bk(unit:Int)(rs:Ua)(cs:Ub)(n:Nat):Prop where
 L:cV rs cs
 l:cs.length<=200
 hn:n<cs.length
 lt:cR rs cs n<(Q0 0 rs cs).getD n 0
 in_:∀c∈cs,c.at_<rs.length/\0<=c.ba/\c.ba<2000*unit/\c.af<2000*unit/\c.len<2000*unit
inductive Jd(unit:Int)(rs:Ua):IV->IH->Prop|kept {bC l:Nat}{h:IH}(fit:∀x∈fL (rs.map (·.1)) (c8 (rs.map (·.1))),dh (rs.map (·.1)) x<=x) (a:ask (rs.map (·.1)) (c8 (rs.map (·.1)))<=c8 (rs.map (·.1))) (gV:h[bC]?=M (.ins "Kept" [("lines",.ref l)])) (gl:h[l]?=M (.lst [.int (c8 (rs.map (·.1)))])):Jd unit rs (.ref bC) h|dj {x:Int}{bC R n:Nat}{cs:Ub}{h:IH}(hx:x∈fL (rs.map (·.1)) (c8 (rs.map (·.1)))) (lt:x<dh (rs.map (·.1)) x) (B:Bk unit rs cs n) (gV:h[bC]?=M (.ins "Broken" (rE R n (cR rs cs n)))) (gR:h[R]?=M (.lst (cs.map aB))):Jd unit rs (.ref bC) h
structure Nums(unit:Int)(rs:Ua):Prop where
 bR:rs.length<=5
 six:∀r∈rs,r.2.length<=6
 G:∀d∈rs.map (·.1),Gw d
 c0:bw (rs.map (·.1)) (jm (rs.map (·.1)))<=200
 u1:1<=unit
 f:∀r∈rs,r.1.gap<8*unit/\r.1.len<=r.1.gap+2/\r.1.af<=12*unit
def Nums.bk(bA:Nums unit rs)(u1:1<=u)(C:x<=u)(c:bw (rs.map (·.1)) u<=200)(lt:x<dh (rs.map (·.1)) x)(hx:x∈fL (rs.map (·.1)) u)(s1:∀r∈rs,r.1.af<=s)(E:∀B,0<=B->(∀r∈rs,r.1.af<=B)->s<=B):∃(n:Nat)(ns:To),VN 0 rs (rows rs s x rs.length)=(n:Int)::ns/\Bk unit rs (rows rs s x rs.length) n:=by
 have G:=bA.G;have mu:=bA.u1;have O:=c;let#[L,Q]:=J06 (s:=s) (sp:=x) G s1;let#[sm,S]:=Eu (s:=s) (sp:=x) G u1 C rs.length<|Zk _;rw[lJ<|by simp_all]at sm S;have ne:rows rs s x rs.length≠[]:=λz=>by
  have I:dh (rs.map (·.1)) x=0:=by rw[<-sm,z];rfl
  let#[d,hd,t,e,_]:=(Eo G).mp hx;have g:=(G d hd).g;have n0:=(G d hd).n0;have J:1<=dm x d:=by unfold dm;have:=qp (iM t)<|Z2 g;rw[if_pos 05];have:=k7 (show 0<=x+d.af-d.aK by lia)<|Z2 g;show Int.lt_add_one_of_le 06
  have:∀{l:Tz},(∀d∈l,Gw d)->d∈l->0<dh l x:=λ{l}=>by
   have D:∀{l:Tz},(∀d∈l,Gw d)->0<=dh l x:=λ{l}=>by
    induction l with|nil=>intro _;show ZO _|cons e l k=>
     intro q;have:=qp (Vw (q e ZA)<|ZO x).1 (show 0<=e.len by have:=(q e ZA).n0;show Z2 06);have:=k λy j=>q y<|Zq _ j
     simp[dh]at *;show vQ 06 06
   induction l with|nil=>intro _ h;cases h|cons e l k=>
    intro q h;have n1:=D λy j=>q y<|Zq _ j
    have V:dh (e::l) x=dm x e*e.len+dh l x:=by simp[dh]
    rcases ZC.mp h with rfl|h
    .have:=Int.mul_pos (show 0<dm x d by assumption) (show 0<d.len by assumption);show ZR (ZR this<|m5 n1)<|dP V.symm
    .have:=k (λy j=>q y<|Zq _ j) h;have:=qp (Vw (q e ZA)<|ZO x).1 (show 0<=e.len by have:=(q e ZA).n0;show Z2 06);show tU 06 06
  have:=this G hd;show gp.mpr this<|dP I
 have af:=Jt6 (kind:=0) L bA.six Q ne<|by rw[sm];show lt
 cases e:VN 0 rs (rows rs s x rs.length)with|nil=>show absurd e af|cons p ns=>
  let#[n,rfl,hn,l2]:=Nn.mp (e▸ZA:p∈VN 0 rs (rows rs s x rs.length));calc#[n,ns,rfl,L,05,hn,l2,λc m=>?_];have ok:=L.ok c m;let#[a,t,ha,P,rfl]:=yD _ m;have f:=Y4 G ha;have d1:=Vw f C;have d2:=Xk f u1;have U:=VE G O (rs[a]).1 (mX (f:=(·.1))<|Z6 ha);have F:=bA.f _<|Z6 ha;have Y:=E (12*unit) 05 λr W=>(bA.f r W).2.2
  have R:=ok.ba;have H:(p7 s a (rs.getD a rd).1 (s-(rs.getD a rd).1.af+(t:Int)*(rs.getD a rd).1.gap)).af<=(rs[a]).1.af:=ok.l1;have g:=f.g;have ft:=f.t;rw[Q9 ha]at *;have X:(t:Int)*(rs[a]).1.gap<=200*(8*unit):=Z8 (E6 (show(t:Int)<=200 by show Z2<|ZR (ZR (ZR (Int.lt_toNat.mp P) d1.2) d2) U)<|Z2 g) 05;show#[ha,R,by change s-(rs[a]).1.af+(t:Int)*(rs[a]).1.gap<_;lia,Z1 H (show(rs[a]).1.af<2000*unit by lia),by change(rs[a]).1.len<_;lia]
section
variable{k:Nat}{h:IH}
def Jv4(d:cF h bE rs)(bA:Nums unit rs)(t0:h[1]?=M (.tab "Bench.__init__"))(t1:h[0]?=M (.tab "Order.pick")):WE (C6 (k+10) [.ref bE] h) (λv h'=>Ex h h'/\(∀r∈rs,r.2=[])/\Jd unit rs v h') λn h'=>Ex h h'/\(h'[n]?=M (.exc "HoldsThings" [])/\(¬ ∀r∈rs,r.2=[])\/h'[n]?=M (.exc "TooMany" [])/\(∀r∈rs,r.2=[])/\(∀x∈fL (rs.map (·.1)) (c8 (rs.map (·.1))),dh (rs.map (·.1)) x<=x)/\c8 (rs.map (·.1))<ask (rs.map (·.1)) (c8 (rs.map (·.1)))):=by
 have hb:=Jx;have bR:=bA.bR;have G:=bA.G;have D:(rs.map (·.1)).length<=20:=by rw[Zn];show jo 06
 rw[Jlj];calc IW ?_;rw[L0,YT,Jxn,IU];refine WE.of<|Jf (ah rfl)<|WE.mono (MI (k:=k+6) d (Zb bR<|Zd _ 7) bA.six) ?_ ?_
 .rintro _ h1 ⟨F,E⟩;have d1:=d.kp E.kp;have Y:=d1;let#[O,W,w]:=d1;let#[_,h2,e2,i,ts,rfl,g2,#[S,fc],X]:=(Jw8 (k:=k+5) W w.w D G bA.c0).eq;rw[LZ,YT,Cg];calc WE.of<|Jf (aQ (Jo (ah rfl) e2) rfl g2 yA) ?_;let#[v,Q,e3,x3,z]:=(J01 (k:=k+3) (X.get W) (w.w.kp X.kp) D G fc S).eq;rw[LY,YT,Cg];calc WE.of<|Jf (Jo (ag rfl rfl) e3) ?_;have j:=X.trans x3;have I:=E.trans j;rw[LX,YT,Ci];rcases z with⟨rfl,H⟩|⟨x,hx,rfl,lt⟩
  .calc WE.of (Jf (bh<|(aD rfl rfl).trans (rfl:Xh .aw .aw Q=.ok (.bl Zm) Q)) #[(λz=>by cases z),λ_=>?_]);rw[Cf,LV,YT,Ci];let#[_,h4,V,rfl,P]:=(Er (k:=k+6) (j.get W) (w.w.kp j.kp) D G fc).eq;refine WE.of<|Jf (fT (Jo (ag rfl rfl) V) rfl)<|cX (λq=>?_) λq=>?_
   .rw[IT];show WE.of (Jf (ah rfl) #[by change 1<=sizeLine;show mR 06,#[_,_,grown],(I.trans P).trans<|.one _ _,.inr #[grown,F,H,q]])
   .rw[Cf];calc gF.of<|aj<|WR.mono (Jsy (k:=k+7) (cu (ah rfl) rfl) grown) ?_;rintro _ h5 ⟨bC,l,rfl,gV,gl,J⟩;show#[(I.trans P).trans<|(Ex.one _ _).trans J,F,.kept H (dR.mp q) gV gl]
  .calc WE.of (Jf (bh<|(aD rfl rfl).trans (rfl:Xh (.int x) .aw Q=.ok (.bl Zl) Q)) #[λ_=>gF.of ?_,λz=>by cases z]);let#[_,_,_,_,xf]:=(Eo G).mp hx;let#[_,h4,V,R,s,rfl,s1,s2,g4,P]:=(Jtq (k:=k+6) (Y.kp j.kp) (Zb bR<|Zd _ 7) G S xf fc).eq;let#[n,ns,em,B]:=bA.bk S xf fc lt hx s1 s2;have m:=j.trans P;calc ae<|ao<|Jf (aq (Jo (ag rfl rfl) V) rfl Qa)<|aj ?_;let#[_,h5,e5,bD,rfl,J,o5]:=(MK (k:=k+5) (e:=Ja 0) (U:=[M<|.ref bE,M (.int (c8 (rs.map (·.1)))),M<|.int x,M<|.ref R]) rfl (Y.kp m.kp) (Zb bR<|Zd _ 7) F).eq;have xt:=E.trans<|m.trans J;let#[_,h6,e6,bB,rfl,_,g6,x6]:=(Jti (k:=k) #[o5,J.get g4,λc hc=>(B.L.ok c hc).at_,bA.six,xt.get t1,B.l] (xt.get t0) B.L B.l).eq;rw[em]at g6;have C:=J.trans x6;let#[_,h7,e7,bC,R',rfl,gV,gR,x7]:=(Jra (k:=k+6) (Y.kp (m.trans C).kp) (C.get g4) B.hn<|by rw[Vf B.hn];show(B.L.ok _<|Z6 B.hn).at_).eq;show Jf (Jo (ja rfl rfl (aQ (Jo (ag e5 rfl) e6) rfl g6 Qa)) e7) #[(E.trans<|m.trans C).trans x7,F,.dj hx lt B gV gR]
 .rintro n h1 ⟨F,e,E⟩;show#[#[_,_,e],E,.inl #[e,F]]
end
end
section
variable{k:Nat}{h:IH}
def Ey{g:IV->j7}(D:h[i]?=M (.lst xs))(e:∀x∈xs,toD h 5 x=M (g x))(c:∀x∈xs,iD (g x)=Zl)(F:h[j]?=M (.lst [])):eL (.ref i) (.ref j) h=.ok (.bl (!xs.isEmpty)) h:=by
 have m:toD h 6 (.ref i)=M (.list<|xs.map g):=by rw[XY D,yk e];rfl
 have C:toD h 6 (.ref j)=M (.list []):=by rw[XY F];rfl
 have k:=DV c;have B:QH (.ref i) (.ref j) h=M xs.isEmpty:=by unfold QH;rw[m,C];dsimp only;rw[if_pos #[by rw[iD];show k,by rw[iD,lP]],lQ];cases xs with|nil=>rw[zh,qt];rfl|cons a H=>rw[eP,qt];rfl;all_goals intros;simp_all
 unfold eL;have E:VS (.ref i) (.ref j)=Z:=rfl;rw[E];dsimp only;rw[B]
end
def NA(q:cD x):iD (.str x)=Zl:=by rw[iD];unfold PyData.strOk;rw[<-Array.all_toList,pN];intro c j;have:=q.2.2 c j;lia
def yE(v:IV):j7:=match v with|.tup [.str x,.int a,.int b]=>.tuple [.str x,.int a,.int b]|_=>.none
def hp(h:IH)(y:IV):Bool:=match y with|.tup [_,_,_,_,_,.ref q]=>(match h[q]? with|some (.lst [])=>Zm|_=>Zl)|_=>Zm
section
variable{k:Nat}{h:IH}
def Ez(g:h[q]?=M (.lst<|r.2.map az)):hp h (fJ r q)=!r.2.isEmpty:=by change(match h[q]? with|some (.lst [])=>Zm|_=>Zl)=_;rw[g];cases r.2<;>rfl
theorem vc{hs:Tx}(nm:∀a∈hs,cD a.1):∀x∈hs.map az,iD (yE x)=Zl:=λx hx=>by let#[r,j,rfl]:=ZS.mp hx;change iD (.tuple [.str r.1,.int r.2.1,.int r.2.2])=Zl;simp![iD,lP];have:=NA<|nm r j;rw[iD]at this;rw[this];rfl
theorem vd{hs:Tx}:∀x∈hs.map az,toD h (n+3) x=M (yE x):=λx hx=>by let#[r,_,rfl]:=ZS.mp hx;rfl
def J1u(g:h[q]?=M (.lst<|r.2.map az))(nm:∀a∈r.2,cD a.1):WR (ye k [M<|fJ r q] h) λb h'=>b=(!r.2.isEmpty)/\Ex h h':=by have j:bq (IV.str r.1.name::o8 r q) 5=M (.ref q):=MN;calc Jf (bh<|(aD (aq rfl rfl j)<|cu rfl rfl).trans<|Ey (grow g) vd (vc nm) grown) #[?_,.one _ _];cases r.2<;>rfl
def Jzd(e:Ja 0 U h=.ok (.ref S) h)(gS:h[S]?=M (.lst ys))(w:bu h lo ys rs)(nm:∀r∈rs,∀a∈r.2,cD a.1)(lr:rs.length<=12):WR (Jv (Jq 'a') 1 [] (aF 0) (ye k) (Dz k) U h) λv h'=>v=.ref h.length/\∃g,h'=h++.lst ((ys.filter<|hp h).map λv=>v)::g:=by
 have E:=Jx;have D:=w.len;refine xG (by rw[JC];show Jf e<|(JM _).mpr #[_,gS,rfl,rfl,rfl]) (Zb (Zd _ 999988)<|Zb (Zc (Zb (Zc (Zg D) 1)<|Zc lr 1) 999988) E) (λB q=>q _ _ gS) ?_ ?_
 .intro x hx B C;let#[n,hn,rfl]:=gG.mp hx;have j:n<rs.length:=jq 06 06;let#[q,F,_,m]:=w.at_ n _ _ (Zh hn)<|Zh j;rw[F,Ez m];show J1u (C _ _ m)<|nm _<|Z6 j
 .intro x hx _ B C;show Jf rfl #[rfl,.refl _]
end
def EA(h:IH)(v:IV):j7:=(toD h 5 v).getD .none
section
variable{k:Nat}{h:IH}
def ve(g:h[q]?=M (.lst<|r.2.map az)):toD h 5 (fJ r q)=M (.tuple [.str r.1.name,.int r.1.gap,.int r.1.len,.int r.1.aK,.int r.1.af,.list<|(r.2.map az).map yE]):=by
 have e:toD h 4 (.ref q)=M (.list<|(r.2.map az).map yE):=by rw[XY g,yk<|vd];rfl
 change([IV.str r.1.name,IV.int r.1.gap,IV.int r.1.len,IV.int r.1.aK,IV.int r.1.af,IV.ref q].mapM<|toD h 4).map PyData.tuple=_;rw[nX,nX,nX,nX,nX,nX,e];rfl
def Jzu(e:Ja 0 U h=.ok (.ref S) h)(gS:h[S]?=M (.lst ys))(w:bu h lo ys rs)(I:∀r∈rs,cD r.1.name)(nm:∀r∈rs,∀a∈r.2,cD a.1)(lr:rs.length<=12):WR (Jc eL (Jv (Jq 'a') 1 [] (aF 0) (ye k)<|Dz k) (J0 Je) U h) λv h'=>v=.bl (rs.any λr=>!r.2.isEmpty)/\Ex h h':=by
 have O:=w.len;let#[_,P,H,rfl,g,rfl]:=(Jzd (k:=k) e gS w nm lr).eq;rw[zg]at H;have m:∀y∈ys,∃r∈rs,∃q,y=fJ r q/\h[q]?=M (.lst<|r.2.map az):=λy D=>by let#[n,hn,rfl]:=gG.mp D;have C:n<rs.length:=jq 06 06;let#[q,E,_,j]:=w.at_ n _ _ (Zh hn)<|Zh C;show#[_,Z6 C,q,E,j]
 have J:Ex h (h++.lst (ys.filter<|hp h)::g):=.cons _ _ _;have F:=J.trans<|.one _<|.lst [];refine Jf ((aD H<|cu rfl rfl).trans<|Ey (g:=EA<|h++.lst (ys.filter<|hp h)::g++[.lst []]) (grow Jz) (λx hx=>?_) (λx hx=>?_) grown) #[?_,F]
 .let#[r,B,q,rfl,j]:=m x (lK.mp hx).1;unfold EA;rw[ve<|F.get j];rfl
 .let#[r,B,q,rfl,j]:=m x (lK.mp hx).1;unfold EA;rw[ve<|F.get j];have n1:=NA<|I r B;have n2:=DV<|vc<|nm r B;rw[iD]at n1;simp![Option.getD_some,iD,lP,n1,n2];rfl
 .congr 1;rw[tQ,zc];constructor
  .intro z;cases f:ys.filter (hp h)with|nil=>rw[f]at z;cases z|cons x t=>have hx:=lK.mp (f▸ZA:x∈ys.filter (hp h));let#[r,B,q,rfl,j]:=m x hx.1;show#[r,B,by rw[<-Ez j];show hx.2]
  .rintro⟨r,B,ne⟩;let#[n,hn,rfl]:=gG.mp B;let#[q,E,j]:=w.get<|Zh hn;have D:fJ rs[n] q∈ys.filter (hp h):=lK.mpr #[tK E,by rw[Ez j];show ne];cases f:ys.filter (hp h)with|nil=>rw[f]at D;cases D|cons x t=>rfl
end
section
seal L4.run L4.WS L4.WR
def EB(v:IV):WD:=match v with|.tup [.str n,.int g,.int l,.int d,.int t,_]=>#[n,g,l,d,t]|_=>#[⟨#[]⟩,0,0,0,0]
def NB(w:bu h lo ys rs)(f:WD->α):ys.map (λv=>f<|EB v)=(rs.map (·.1)).map f:=by
 have k:=w.len;refine kZ (by simp[k]) λi j m=>?_
 rw[Zn]at j;let#[q,e,_]:=w.at_ i _ _ (Zh j) (Zh<|show i<rs.length by show Zb j<|Zg k);rw[ZN,ZN,ZN,e];rfl
def bu.of(w:bu h lo ys rs)(hv:v∈ys):∃r∈rs,∃q,v=fJ r q:=by have k:=w.len;let#[i,D,rfl]:=gG.mp hv;have j:i<rs.length:=jq 06 06;let#[q,e,_]:=w.at_ i _ _ (Zh D)<|Zh j;show#[_,Z6 j,q,e]
def Juu(I:Nat->aE->IH->Prop) (turn:∀m U h,I m U h->t U h=.ok Zl h/\((∃j h',b U h=.brk j h'/\N j h')\/∃k j h',m=k+1/\b U h=.next j h'/\I k j h'))(hm:m<1000000)(start:I m U h):WS (V5 t b U h) N R:=by
 have C:∀(n m:Nat)(U:aE)(h:IH),m<n->I m U h->∃j h',Vr t b n U h=.next j h'/\N j h':=by
  intro n;induction n with|zero=>intro m U h hn _;show absurd 06 (mT _)|succ n F=>
   intro m U h hn D;let#[e,z]:=turn m U h D;unfold Vr;rw[e];rcases z with⟨j,h',B,q⟩|⟨k,j,h',rfl,B,q⟩
   .show#[j,h',by simp![if_true,B],q]
   .simp only[if_true,B];show F k j h' (EJ 06) q
 have E:Xa=1000000:=by unfold Xa;rfl
 let#[j,h',e,q]:=C Xa m U h (by rw[E];show hm) start;rw[Ie];show d4 e q
def EC(e1:e U h=.ok a h1)(B:t (U.set 2<|M a) h1=.ok c h2)(m:x (U.set 2<|M a) h2=.ok b h2):Jg (Jl 2 e) (Jg (aU t YE Jp)<|Jl 1 x) U h=if c then .brk (U.set 2<|M a) h2 else .next ((U.set 2<|M a).set 1<|M b) h2:=by
 have k:Jl 2 e U h=.next (U.set 2<|M a) h1:=by unfold Jl;rw[e1];rfl
 have j:aU t YE Jp (U.set 2<|M a) h1=if c then .brk (U.set 2<|M a) h2 else .next (U.set 2<|M a) h2:=by unfold aU;rw[B];cases c<;>rfl
 unfold Jg;rw[k];dsimp only;rw[j];cases c
 .change Jl 1 x _ h2=_;unfold Jl;rw[m];rfl
 .rfl
def NC(l:Tz)(f):l.map (λd=>IV.int<|f d)=(l.map f).map IV.int:=by rw[d0];rfl
section
variable{h:IH}
def vf(e1:Ja i U h=.ok (.int a) h)(j:e U h=.ok (.int b) h1)(q:N (U.set i<|M<|.int<|a+b) h1):WS (i8 .Add i e U h) N R:=by unfold i8;rw[e1];simp![rS,j];show J8n q
def ED(e:a U h=.ok Zl h1):cE a b U h=.ok Zl h1:=by unfold cE;rw[e];rfl
end
section
variable{k:Nat}{h:IH}{S lo:Nat}{ys:Tw}{rs:Ua}{s:Int}
theorem ND(g:Gw r.1)(s1:1<=s):yb (k+1) [fJ r q,.int s] h=.ok (.int<|cm s r.1) h:=Js (by rw[Jhf];unfold cm;rw[if_pos s1];show ak<|aj<|Jf (JY (dE (aO (aO rfl (aq rfl rfl Yt))<|aq rfl rfl JN) rfl) (aq rfl rfl JN) g.g g.l) #[rfl,rfl])
variable(gS:h[S]?=M (.lst ys))(w:bu h lo ys rs)(bR:rs.length<=5)
include gS w bR
def vg(m:Ja 0 U h=.ok (.ref S) h)(B:∀(r:RH)(q:Nat)(h2:IH),r∈rs->e (M (fJ r q)::js.map λj=>(U[j]?).join) h2=.ok (.int<|f r.1) h2):WR (aR (aP cW) (Jb (Jv (Jq 'a') 1 js (aF 0) J2 e) Je) U h) λv h'=>v=.int ((rs.map (·.1)).map f).sum/\Ex h h':=by
 have E:=Jx;have D:=w.len;let#[g,k]:=Xj (f:=λv=>.int<|f<|EB v) (by rw[JC];show Jf m<|(JM _).mpr #[_,gS,rfl,rfl,rfl]) 05 (λh2 q=>q _ _ gS) (by intro v hv h2 _;let#[r,C,q,rfl]:=w.of hv;show Jf (B r q h2 C) #[rfl,.refl _]);rw[NB w λd=>IV.int<|f d,NC]at k;show Jf ((eN<|ah k).trans<|Js<|xI.mpr #[_,Jz,_,Qz _,rfl,rfl]) #[rfl,.cons _ _ _]
variable(G:∀d∈rs.map (·.1),Gw d)
include G
def NF(s1:1<=s)(c:bw (rs.map (·.1)) s<=200):WR (Yj (k+2) [.ref S,.int s] h) λv h'=>v=.int (ask (rs.map (·.1)) s)/\Ex h h':=by
 rw[Jlk];refine ak<|aj<|vg (f:=λd=>cm s d*d.len) gS w bR rfl λr q m j=>?_
 have g:=G _ (mX (f:=(·.1)) j);show eE (Jo (ag rfl rfl)<|ND g s1) (aq rfl rfl Ql) (.inl (by have:=Yv (s:=s) g;have:=VE G c _ (mX (f:=(·.1)) j);lia))
theorem J67(s1:1<=s)(c:bw (rs.map (·.1)) s<=200)(xs:x<=s):Dj (k+1) [.ref S,.int x] h=.ok (.int (dh (rs.map (·.1)) x)) h:=Js (by
 have O:=w.len;rw[Jjh];calc ak<|ae<|ao<|Jf rfl (ae<|dO ?_);rw[JC];calc Jf rfl ((JM _).mpr #[_,gS,?_]);refine JZ (λn U W=>h=W/\∃(I D F B E H:Te),U=[M<|.ref S,M<|.int x,M (.int (dh ((rs.map (·.1)).take n) x)),I,D,F,B,E,H]) (λ_ _ _ z=>z.1▸gS) ?_ ?_ #[rfl,Z,Z,Z,Z,Z,Z,rfl]
 .rintro n hn _ _ ⟨rfl,I,D,F,B,E,H,rfl⟩;have j:n<rs.length:=by rw[<-O];show hn
  let#[q,R,_,_]:=w.at_ n _ _ (Zh hn)<|Zh j;have Q:=mX (f:=(·.1))<|Z6 j;have g:=G _ Q;have m:=Vw g xs;have J:=Xk g s1;have C:=VE G c _ Q;rw[pG (by rw[Zn];show j),ZN,show ∀(l:Tz) d,dh (l++[d]) x=dh l x+dm x d*d.len from λl d=>by simp[dh],R];generalize rs[n]=r at g m J C;generalize dh ((rs.map (·.1)).take n) x=V;calc d4 (MM ..) ?_;have P:0<=dm x r.1/\dm x r.1<=200:=#[m.1,(Z8 (Z8 m.2 J) C)];clear m J C;unfold dm at P ⊢;by_cases z:0<=x+r.1.af-r.1.aK
  .rw[if_pos z]at P ⊢;calc fG (cH (sS (dE (aO rfl rfl) rfl) rfl)<|decide_eq_true z) ?_;refine vf rfl (eE (aO (JY (dE (aO rfl rfl) rfl) rfl g.g g.l) rfl) rfl (.inl 05)) #[rfl,_,_,_,_,_,_,rfl]
  .rw[if_neg z,Int.zero_mul,Int.add_zero];show aI (cH (sS (dE (aO rfl rfl) rfl) rfl)<|decide_eq_false z)<|ax #[rfl,_,_,_,_,_,_,rfl]
 .rintro _ _ ⟨rfl,I,D,F,B,E,H,rfl⟩;rw[lJ (by rw[Zn];change _<=ys.length;show Zg O.symm)];show aj<|Jf rfl #[rfl,rfl])
inductive NG(ds:Tz)(S:Nat)(h:IH)(m:Nat):aE->IH->Prop|mk {t:Int}{a:Te}{h':IH}(F:Fr ds m t) (x:Ex h h'):NG ds S h m [M (.ref S),M (.int t),a] h'
def J0d(c0:bw (rs.map (·.1)) (jm (rs.map (·.1)))<=200):WR (Dl (k+3) [.ref S] h) λv h'=>v=.int (c8 (rs.map (·.1)))/\Ex h h':=by
 have V:=Jx;have R:=w.len;rw[Jm4];let#[I,J]:=Xj (it:=Jq 'a') (js:=[]) (e:=Mf<|k+2) (U:=[M<|.ref S,Z,Z]) (h0:=h) (h:=h) (xs:=ys) (f:=λv=>.int (EB v).aK)
  (by rw[JC];show Jf rfl ((JM _).mpr #[_,gS,rfl,rfl,rfl])) (Zb (Zd _ 999995)<|Zb (Zc (Zb (Zc (Zg R) 1)<|Zc bR 1) 999995) V) (λh2 q=>q _ _ gS) (by intro v hv h2 _;let#[r,P,q,rfl]:=w.of hv;show Jf (aq rfl rfl Vb) #[rfl,.refl _])
 rw[NB w λd=>IV.int d.aK,NC]at J;calc ak<|ae<|ao<|(xJ ..).mpr<|Jf (ah J)<|Jf rfl #[_,rfl,_,Jz,_,Qz _,?_];rw[(XZ G).1];have O:Ex h (h++IX.lst (((rs.map (·.1)).map (·.aK)).map IV.int)::I):=.cons _ _ _;generalize h++IX.lst (((rs.map (·.1)).map (·.aK)).map IV.int)::I=h1 at O;calc ae (Juu (NG (rs.map (·.1)) S h) ?_ (m:=201) 01<|.mk (Fr.start G c0) O);rintro m _ h2 (@⟨t,a,_,F,x⟩);calc#[rfl,?_];let#[_,E,e3,rfl,B]:=(NF (k:=k) (x.get gS) (w.kp x.kp) bR G F.t1 F.c).eq;have D:Jk (Yj<|k+2) [] (Jb 'a'<|Jb 'b' Je) [M<|.ref S,M<|.int t,a] h2=.ok (.int (ask (rs.map (·.1)) t)) E:=Jo (ag rfl rfl) e3;by_cases q:t<ask (rs.map (·.1)) t
 .have a1:1<=ask (rs.map (·.1)) t:=by have:=F.t1;show Z2<|Z1 this q
  let#[_,Q,H,rfl,Y]:=(vg (U:=[M<|.ref S,M<|.int t,M (.int (ask (rs.map (·.1)) t))]) (e:=Mh<|k+2) (js:=[2]) ((x.trans B).get gS) (w.kp (x.trans B).kp) bR rfl λr q h2 P=>Jo (ag rfl rfl)<|ND (G _<|mX P) a1).eq;have j:=(x.trans B).trans Y;by_cases C:bw (rs.map (·.1)) (ask (rs.map (·.1)) t)<=200
  .let#[W,X,F']:=F.next G q C;show .inr #[W,_,_,X,EC (h2:=Q) D (iG (cH (oY rfl rfl)<|decide_eq_false<|gp.mpr q)<|cH (fT H rfl)<|decide_eq_false (by change ¬200<bw _ _;show dR.mpr C)) rfl,.mk F' j]
  .calc .inl #[_,_,EC (h2:=Q) D (iG (cH (oY rfl rfl)<|decide_eq_false<|gp.mpr q)<|cH (fT H rfl)<|decide_eq_true (by change 200<bw _ _;show gp.mp C)) rfl,?_];have e:=F.stop λz=>C z.2
   show aj (Jf rfl #[by rw[<-e],j])
 .calc .inl #[_,_,EC (h2:=E) D (ED<|cH (oY rfl rfl)<|decide_eq_true<|dR.mp q) rfl,?_];have e:=F.stop λz=>q z.1
  show aj (Jf rfl #[by rw[<-e],x.trans B])
end
end
section
seal L4.run L4.WS L4.WR
inductive NH(h:IH)(S:Nat)(F:Int)(ds:Tz)(r:RH)(q m:Nat):aE->IH->Prop|mk {t:Nat}(l:m+t=201) (no:∀t':Nat,t'<t->dh ds ((t':Int)*r.1.gap+r.1.aK-r.1.af)<=(t':Int)*r.1.gap+r.1.aK-r.1.af):NH h S F ds r q m [M (.ref S),M (.int F),M (fJ r q),M (.int ((t:Int)*r.1.gap+r.1.aK-r.1.af))] h
section
variable{k:Nat}{h:IH}{S lo:Nat}{ys:Tw}{rs:Ua}(gS:h[S]?=M (.lst ys))(w:bu h lo ys rs)(bR:rs.length<=5)(G:∀d∈rs.map (·.1),Gw d)
include gS w bR G
def J0p(J:1<=F)(fc:bw (rs.map (·.1)) F<=200):
  ∃b,yc (k+2) [.ref S,.int F] h=.ok (.bl b) h/\(b=Zl->∃x∈fL (rs.map (·.1)) F,x<dh (rs.map (·.1)) x)/\(b=Zm->∀x∈fL (rs.map (·.1)) F,dh (rs.map (·.1)) x<=x):=by
 have P:=w.len;suffices H:WR (yc (k+2) [.ref S,.int F] h) λv E=>h=E/\∃b,v=.bl b/\(b=Zl->∃x∈fL (rs.map (·.1)) F,x<dh (rs.map (·.1)) x)/\(b=Zm->∀x∈fL (rs.map (·.1)) F,dh (rs.map (·.1)) x<=x) by let#[_,_,e,rfl,b,rfl,z]:=H.eq;show#[b,e,z]
 rw[Jd0];calc ak<|ae<|dO ?_;rw[JC];calc Jf rfl ((JM _).mpr #[_,gS,?_]);refine JZ (λn U E=>h=E/\(∃a b,U=[M<|.ref S,M<|.int F,a,b])/\∀x∈fL ((rs.map (·.1)).take n) F,dh (rs.map (·.1)) x<=x) (λ_ _ _ z=>z.1▸gS) ?_ ?_ #[rfl,#[_,_,rfl],λx hx=>by cases hx]
 .rintro n hn _ _ ⟨rfl,⟨a,b,rfl⟩,no⟩;have j:n<rs.length:=by rw[<-P];show hn
  have hm:n<(rs.map (·.1)).length:=by rw[Zn];show j
  let#[q,Q,_,_]:=w.at_ n _ _ (Zh hn)<|Zh j;have C:=mX (f:=(·.1))<|Z6 j;rw[Em hm,ZN,Q];generalize rs[n]=r at C;have g:=G _ C;have V:=g.g;have d2:=Xk g J;have W:=VE G fc _ C;calc d4 rfl (ae<|ao<|Jf (dE (aq rfl rfl Vb)<|aq rfl rfl Yt) ?_);calc yt (NH h S F (rs.map (·.1)) r q) ?_ (m:=201) 01 (by have:r.1.aK-r.1.af=((0:Nat):Int)*r.1.gap+r.1.aK-r.1.af:=05;rw[this];show .mk rfl λB h=>absurd h<|mT _);rintro m _ _ (@⟨t,l,ok⟩);refine Jf (oY rfl rfl)<|cX (λz=>?_) λz=>#[rfl,#[_,_,rfl],λx hx=>?_]
  .have hx:=(En (s:=F) g).mpr #[t,rfl,z];have lt:t<200:=by
    unfold bL at hx;let#[u,I,e]:=ZS.mp hx;have I:=fO.mp I;have:u=t:=by
     have:((u:Int)-t)*r.1.gap=0:=by rw[Int.sub_mul];lia
     rcases Int.mul_eq_zero.mp this with z|z<;>lia
    lia
   obtain⟨D,rfl⟩:∃D,m=D+1:=#[m-1,05];have O:=List.mem_flatMap.mpr #[_,C,hx];calc#[D,rfl,ae<|nG<|Jf (fT (Jo (ag rfl rfl)<|J67 (k:=k) gS w bR G J fc z) rfl)<|cX (λy=>aj<|Jf rfl #[rfl,Zl,rfl,λ_=>#[_,O,y],λz=>by cases z]) λy=>ax<|vf rfl (aq rfl rfl JN) ?_];rw[show(t:Int)*r.1.gap+r.1.aK-r.1.af+r.1.gap=((t+1:Nat):Int)*r.1.gap+r.1.aK-r.1.af by rw[zk,Int.add_mul];lia];refine .mk 05 λB R=>?_
   rcases yM (Z5 R)with u|u
   .show ok B u
   .rw[u];show dR.mp y
  .rcases ZQ.mp hx with hx|hx
   .show no x hx
   .let#[B,rfl,le]:=(En g).mp hx;calc ok B ?_;rcases vm B t with u|u
    .show u
    .have:=E6 (show(t:Int)<=B by show tW.mpr 06)<|Z2 V;lia
 .rintro _ _ ⟨rfl,⟨a,b,rfl⟩,no⟩;rw[lJ<|by simp_all]at no;show aj (Jf rfl #[rfl,Zm,rfl,(λz=>by cases z),λ_=>no])
end
inductive Du(rs:Ua):IV->Prop|holds (no:¬ ∀r∈rs,r.2=[]):Du rs (.str "holds")|dj (no:∀r∈rs,r.2=[]) (x:∃x∈fL (rs.map (·.1)) (c8 (rs.map (·.1))),x<dh (rs.map (·.1)) x):Du rs (.str "broken")|kept (no:∀r∈rs,r.2=[]) (fit:∀x∈fL (rs.map (·.1)) (c8 (rs.map (·.1))),dh (rs.map (·.1)) x<=x) (a:ask (rs.map (·.1)) (c8 (rs.map (·.1)))<=c8 (rs.map (·.1))):Du rs (.int (c8 (rs.map (·.1))))|many (no:∀r∈rs,r.2=[]) (fit:∀x∈fL (rs.map (·.1)) (c8 (rs.map (·.1))),dh (rs.map (·.1)) x<=x) (a:c8 (rs.map (·.1))<ask (rs.map (·.1)) (c8 (rs.map (·.1)))):Du rs (.str "many")
def J28(G:∀d∈ds,Gw d)(c0:bw ds (jm ds)<=200):1<=c8 ds/\bw ds (c8 ds)<=200:=by
 have j:∀(m:Nat)(t:Int),1<=t->bw ds t<=200->1<=jf ds m t/\bw ds (jf ds m t)<=200:=λm=>by
  induction m with|zero=>show λt a b=>#[a,b]|succ m k=>
   intro t a b;unfold jf;split
   .rename_i q;show k _ (Z2<|Z1 a q.1) q.2
   .show#[a,b]
 show j _ _ (XZ G).2 c0
def J0f(gS:h[S]?=M (.lst ys))(w:bu h lo ys rs)(bA:Nums unit rs)(V:∀r∈rs,cD r.1.name)(nm:∀r∈rs,∀a∈r.2,cD a.1):
  WR (Dm (k+4) [.ref S] h) λv h'=>Ex h h'/\Du rs v:=by
 have bR:=bA.bR;have G:=bA.G;let#[E,fc]:=J28 G bA.c0;rw[Jpz];let#[_,W,C,rfl,m]:=(Jzu (U:=[M<|.ref S,Z]) rfl gS w V nm (jo 06)).eq;have any:(rs.any λr=>!r.2.isEmpty)=Zl↔¬ ∀r∈rs,r.2=[]:=by
  rw[zc];constructor
  .rintro⟨r,D,z⟩ j;rw[j r D]at z;cases z
  .intro j;refine Fy λz=>j λr D=>?_
   cases e:r.2 with|nil=>rfl|cons a b=>show absurd #[r,D,by rw[e];rfl] z
 calc ak<|ae ?_;cases ea:rs.any λr=>!r.2.isEmpty with|true=>rw[ea]at C;show fG (bh C)<|aj<|Jf rfl #[m,.holds<|any.mp ea]|false=>
  rw[ea]at C;have j:=Fy λz=>by rw[any.mpr z]at ea;cases ea
  have O:=w.kp m.kp;have g1:=m.get gS;let#[_,X,Q,rfl,B]:=(J0d (k:=k) g1 O bR G bA.c0).eq;have F:=O.kp B.kp;have g2:=B.get g1;calc aI (bh C)<|ax<|ae<|ao<|Jf (Jo (ah rfl) Q)<|ae ?_;let#[b,J,P,I]:=J0p g2 F bR G E fc;cases b with|true=>show fG (bH<|Jo (ag rfl rfl) J)<|aj<|Jf rfl #[m.trans B,.dj j<|P rfl]|false=>let#[_,Y,R,rfl,H]:=(NF g2 F bR G E fc).eq;show aI (bH<|Jo (ag rfl rfl) J)<|ax<|ae<|nG<|Jf (oY (Jo (ag rfl rfl) R) rfl)<|cX (λq=>aj<|Jf rfl #[(m.trans B).trans H,.kept j (I rfl) q]) λq=>ax<|aj<|Jf rfl #[(m.trans B).trans H,.many j (I rfl)<|gp.mp q]
inductive Lj(unit:Int)(rs:Ua):IV->IH->Prop|told {v:IV}{h:IH}(no:∀r∈rs,r.2=[]) (j:Jd unit rs v h):Lj unit rs (.tup [.str "told",v]) h|holds {v:IV}{h:IH}(no:¬ ∀r∈rs,r.2=[]):Lj unit rs (.tup [.str "holds",v]) h|many {v:IV}{h:IH}(no:∀r∈rs,r.2=[]) (fit:∀x∈fL (rs.map (·.1)) (c8 (rs.map (·.1))),dh (rs.map (·.1)) x<=x) (a:c8 (rs.map (·.1))<ask (rs.map (·.1)) (c8 (rs.map (·.1)))):Lj unit rs (.tup [.str "many",v]) h
def Jsx(d:cF h bE rs)(bA:Nums unit rs)(D:h[1]?=M (.tab "Bench.__init__"))(t1:h[0]?=M (.tab "Order.pick")):WR (Dn (k+11) [.ref bE] h) λv h'=>Ex h h'/\Lj unit rs v h':=by
 rw[Jji];calc ak<|ae<|ao<|Jf rfl (ae<|ao<|Jf rfl (ae<|J59 _ _ ?_));rw[Cg,IU];refine WE.of<|Jf (ah rfl)<|WE.mono (Jv4 d bA D t1) ?_ ?_
 .rintro v C ⟨B,m,j⟩;show aj<|Jf (fF (ag rfl rfl) rfl) #[B,.told m j]
 .rintro n C ⟨B,⟨e,m⟩|⟨e,m,fit,a⟩⟩
  .calc#["HoldsThings",_,e,?_];rw[IY<|show Cr "HoldsThings"=M Zl by kernel_rfl];show ao<|Jf rfl (aj<|Jf (fF (ag rfl rfl) rfl) #[B,.holds m])
  .calc#["TooMany",_,e,?_];rw[J56 (show Cr "TooMany"=M Zm by kernel_rfl),IY<|show LD "TooMany"=M Zl by kernel_rfl];show ao<|Jf rfl (aj<|Jf (fF (ag rfl rfl) rfl) #[B,.many m fit a])
end
section
seal L4.run L4.WS L4.WR
section
variable{k:Nat}{h:IH}
def DW(h1:IH)(x y:IV)(h':IH):Prop:=∀(r:RH)(q:Nat),x=fJ r q->h1[q]?=M (.lst<|r.2.map az)->∃w:Nat,y=IV.ref w/\w≠h1.length/\h'[w]?=M (wo r)
def Jxe(ee:e U h=.ok (.ref S) h)(G:Gd unit rs)(gS:h[S]?=M (.lst ys))(w:bu h lo ys rs):∃h',Jv (Jq e) 1 [] (aF 0) J2 (yf<|k+5) U h=.ok (.ref h.length) h'/\∃O,h'[h.length]?=M (.lst O)/\gc h' O rs/\Kp h h':=by
 have hb:=Jx;have bR:=G.bR;have Q:=w.len;let#[v,P,ev,rfl,O,gv,V,k3,dv]:=(IS (it:=Jq e) (e:=yf<|k+5) (js:=[]) (U:=U) (h0:=h) (h:=h) (xs:=ys) (bK:=λh'=>h'[S]?=M (.lst ys)) (DW h) (by rw[JC];show Jf ee<|(JM _).mpr #[_,gS,rfl,rfl,rfl]) (Zb (Zd _ 999993)<|Zb (Zc (Zb (Zc (Zg Q) 1)<|Zc bR 1) 999993) hb) (by
   intro x y Y P kb dd r q e g;let#[w,E,I,D]:=dd r q e g;show#[w,E,I,kb _ _ I D]) (λY q=>q _ _ gS) (by
   intro x hx Y k2 l2;let#[n,hn,rfl]:=gG.mp hx;have C:n<rs.length:=jq 06 06;let#[q,R,_,B]:=w.at_ n _ _ (Zh hn)<|Zh C;have j:=G.f _<|Z6 C;have u1:=G.u1;rw[R];generalize rs[n]=r at B j;have f1:=j.g1;have J:=k2 _ _ B;have a5:bq (IV.str r.1.name::o8 r q) 5=M (.ref q):=MN;unfold yf;rw[Yc];calc Jf (dF (aq rfl rfl Qa)<|dF (aq rfl rfl JN)<|dF (aq rfl rfl Ql)<|dF (aq rfl rfl Vb)<|dF (aq rfl rfl Yt)<|ah<|DI (aq rfl rfl a5) J) ?_;generalize m:r.2.map az=hs;calc WR.mono (J0l (k:=k) (hs:=hs) j.nm (Z8 u1 f1) j.l1 j.t1 (λh1=>Jqe j.d1 j.d2) λh1 z=>m▸Jlz (z _ _<|by rw[m];show grown) j.ok) ?_;rintro _ P ⟨rfl,g,rfl⟩;calc#[rfl,(Ex.one _ _).trans<|.cons _ _ _,λX q' F H=>#[_,rfl,by rw[ZM];show dH<|Zb l2<|Zd _ _,?_]];have F:fJ r q=fJ X q':=F;simp![fJ,o8,IV.tup.injEq,t7,IV.str.injEq,IV.int.injEq,IV.ref.injEq,and_true]at F;let#[E,I,D,e4,e5,rfl]:=F;rw[B]at H;have H:r.2.map az=X.2.map az:=by simpa using H
   rw[<-m,H];unfold wo;rw[<-E,<-I,<-D,<-e4,<-e5];show Jz)).eq
 calc#[P,ev,O,gv,#[Z7 (Zb (Zg V)<|Zg Q)<|Zb (Zg Q.symm)<|Zg V.symm,λi v r a b=>?_],k3];let#[q,R,B]:=w.get b;let#[W,E,_,D]:=dv i _ _ R a r q rfl B;show#[W,E,D]
end
end
section
seal L4.run L4.WS L4.WR
section
variable{k:Nat}{h:IH}
theorem EE(i):Yk (k+1) [.int i] h=.ok (.bl Zl) h:=Js (by rw[Jlp];show ak<|aj<|Jf (Vy (fH rfl rfl) rfl) #[rfl,rfl])
def Jwq{S lo:Nat}{ys:Tw}{rs:Ua}{c:Cm}(E:h[S]?=M (.lst ys))(w:bu h lo ys rs)(j:yp rs c):WR (Dh (k+2) [aB c,.ref S] h) λv h'=>v=.bl Zl/\Ex h h':=by
 have P:=Jx;have O:=w.len;have ha:=j.at_;let#[q,D,_]:=w.get<|Zh ha;have B:bq ys (c.at_:Int)=M (fJ rs[c.at_] q):=JI D;let#[_,_,J,rfl,g1,rfl]:=(Qt (it:=Jq 'a') (js:=[]) (e:=Me<|k+1) (U:=[M<|aB c,M<|.ref S,Z,Z,Z,Z]) (h0:=h) (h:=h) (xs:=[.int c.at_,.int c.ba,.int c.af,.int c.len]) (bK:=λ_=>True) (f:=λ_=>.bl Zl) (by rw[JC];show Jf rfl ((YQ _).mpr #[rfl,rfl,rfl])) (by change 4<_;show fU _ _) (λ_ _=>trivial) (by
   intro v hv Q q;obtain⟨i,rfl⟩:∃i:Int,v=.int i:=by simp![ZC,eZ,or_false]at hv;rcases hv with rfl|rfl|rfl|rfl<;>show#[_,rfl]
   show Jf (Jo (ah rfl)<|EE i) #[rfl,.refl _])).eq
 have C:=Ex.cons h (IX.lst<|[IV.int c.at_,IV.int c.ba,IV.int c.af,IV.int c.len].map λ_=>IV.bl Zl) g1;have m:=C.get E;have F:=(eN (f:=aP allI)<|ah J).trans<|all_map (f:=λ_=>Zl) Jz;have el:aR (aP aT) (Jb 'a' Je) [M<|aB c,M<|.ref S,Z,Z,Z,Z] h=.ok (.int 4) h:=rfl;have I:cw Xx 'a' [M<|aB c,M<|.ref S,Z,Z,Z,Z] h=.ok (.bl Zl) h:=fH rfl rfl;have H:eL (.int 4) (.int 4) h=.ok (.bl Zm) h:=rfl;rw[Jlo];calc ak<|ae<|aI (iG (bU<|bH I)<|bh<|(aD el rfl).trans H)<|ax<|ae<|aI (bU<|bH F)<|ax<|ae ?_;calc(Yf ..).mpr (Jf rfl (d4 rfl (ae<|aI (iG (bU<|bh<|DH rfl rfl (dD rfl m) (iM _) 05)<|cH (lA rfl rfl)<|decide_eq_false (by have:=j.ba;show dR.mpr this))<|ax<|aj<|Jf (Vy (yr rfl rfl (aq (aQ rfl rfl m B) rfl Yt) j.l0 j.l1)<|yr rfl rfl (aq (aQ rfl rfl m B) rfl Ql) j.n1 j.n2) #[rfl,C])))
def NI(hS:h[S]?=M (.lst ys))(w:bu h lo ys rs)(L:cV rs cs)(gR:h[R]?=M (.lst<|cs.map aB))(hl:cs.length<=1000):
  WR (ya (k+3) [.ref R,.ref S] h) λv h'=>v=.bl Zl/\Ex h h':=by
 have hb:=Jx;have wl:=w.len;have x1:Ex h (h++[IX.aV []]):=.one _ _;have el:cw VC 'a' [M<|.ref R,M<|.ref S,Z,Z] h=.ok (.bl Zl) h:=fH rfl (by rw[xF gR];rfl);rw[Jlm];calc ak<|ae<|aI (bU<|bH el)<|ax<|ae<|ao<|Jf rfl (ae<|dO ?_);rw[JC];calc Jf rfl ((JM _).mpr #[_,x1.get gR,?_]);refine JZ (λn U h'=>∃B C,U=[M<|.ref R,M<|.ref S,M<|.ref h.length,C]/\Kp h h'/\h'[h.length]?=M (.aV B)/\B.length<=n/\∀(m:Nat) v,aW B (.inl (m:Int))=M v->∃(i:Nat)(c:Cm),i<n/\cs[i]?=M c/\c.at_=m/\v=.int c.ba)
  (λn U h' ⟨_,_,_,kp,_⟩=>kp _ _ gR) ?_ ?_ #[[],Z,rfl,x1.kp,grown,Zk _,λm v e=>by cases e]
 .rintro n hn _ h1 ⟨B,C,rfl,H,g1,W,YY⟩;rw[Zn]at hn;rw[ZN];have X:=L.ok _<|Z6 hn;have E:=Zh hn;generalize cs[n]=c at X E;have ha:=X.at_;let#[_,F,e2,rfl,Y]:=(Jwq (k:=k) (H _ _ hS) (w.kp H) X).eq;have g2:=Y.get g1;have V:=Zh ha;let#[q,ey,_]:=w.get V;have ay:bq ys (c.at_:Int)=M (fJ rs[c.at_] q):=JI ey;generalize rs[c.at_]=r at V ay;have Q:∀{U:aE},U[3]?=M (M<|aB c)->Ja 3 U F=.ok (aB c) F:=λ{U} e=>by change(match U[3]? with|some (M v)=>Res.ok v F|_=>.stuck)=_;rw[e]
  have J:=aq (U:=[M<|.ref R,M<|.ref S,M<|.ref h.length,M<|aB c]) (b:=eC<|.int 0) (Q rfl) rfl (Qa (x:=IV.int c.at_));have last:∀{RR:IV->IH->Prop},WS (ei (Jc Jh 'd' '1') (hU 'c'<|Jc Jh 'd'<|eC<|IV.int 0) [M<|IV.ref R,M<|IV.ref S,M<|IV.ref h.length,M<|aB c] F) (λU h'=>∃B C,U=[M<|.ref R,M<|.ref S,M<|.ref h.length,C]/\Kp h h'/\h'[h.length]?=M (.aV B)/\B.length<=n+1/\∀(m:Nat) v,aW B (.inl (m:Int))=M v->∃(i:Nat)(c:Cm),i<n+1/\cs[i]?=M c/\c.at_=m/\v=.int c.ba) RR:=λ{RR}=>by
   calc(Yf ..).mpr (Jf (aq (Q rfl) rfl JN)<|(D1 ..).mpr<|Jf rfl (Jf J<|(D2 g2<|show B.length<sizeLine by show Zb (Zd _ 999001)<|Zb (Zc (Zb (Zb (Zc W 1) hn) hl) 999001) hb).mpr ?_));refine#[_,_,rfl,λj o z=>J6 (Y.get<|H _ _ z) (by have:=JF z;show dH this),Qd g2,?_,λm v e=>?_]
   .unfold putD;split<;>simp<;>(first|show W|show nK 06|lia)
   .rw[DZ]at e;split at e
    .rename_i P;cases e;have en:(c.at_:Int)=m:=Sum.inl.inj P;show#[n,c,ZY _,E,05,rfl]
    .let#[i,c',a1,a2,C,a4]:=YY m v e;show#[i,c',jO 06,a2,C,a4]
  have I:Ji aM (Jc hJ (Jc Jh 'd' '0') 'c') [M<|.ref R,M<|.ref S,M<|.ref h.length,M<|aB c] F=.ok (aW B<|.inl (c.at_:Int)).isSome F:=bh<|(aD J rfl).trans<|Js<|(ML g2).mpr #[rfl,rfl];calc d4 rfl (ae<|aI (bU<|bH<|Jo (ag rfl rfl) e2)<|ax<|ae ?_);cases ev:aW B (.inl (c.at_:Int))with|none=>show aI (o3<|cH I<|by rw[ev];rfl)<|ax last|some v=>
   let#[i,c',D,O,ea,rfl]:=YY _ _ ev;have c8:=L.c8 i n c' c D O E ea r<|by rw[ea];show V
   show aI (mH (cH I<|by rw[ev];rfl)<|cH (lA (aq (Q rfl) rfl JN)<|aO ((aD rfl J).trans<|Js<|(D0 g2 ev).mpr #[rfl,rfl])<|aq (aQ rfl J (Y.get<|H _ _ hS) ay) rfl JN)<|decide_eq_false<|dR.mpr c8)<|ax last
 .rintro _ h1 ⟨B,C,rfl,H,g1,W,YY⟩;show aj<|Jf rfl #[rfl,X8 H]
end
end
abbrev dG(n:Nat):Nat:=(Nat.toDigits 10 n).length
def yF(h:n<10):dG n=1:=by rw[dG,Nat.toDigits_of_lt_base h];rfl
def Yw(h:10<=n):dG n=dG (n/10)+1:=by rw[dG,Nat.toDigits_of_base_le 01 h,ZM];rfl
def Jvb(n:Nat):1<=dG n:=by
 by_cases h:n<10
 .rw[yF h];show Zk _
 .rw[Yw<|ZH h];show iI _
def NJ(a b:Nat)(h:a<=b):dG a<=dG b:=by
 by_cases ha:a<10
 .rw[yF ha];show Jvb b
 .rw[Yw (n:=a)<|ZH ha,Yw (n:=b)<|Zb (ZH ha) h];have:=NJ (a/10) (b/10)<|Nat.div_le_div_right h;show nJ 06
termination_by a
decreasing_by lia
def X5(b:Nat):dG (10*b)<=dG b+1:=by
 by_cases j:b=0
 .subst j;show gi _
 .rw[Yw 05,Nat.mul_div_cancel_left _ 01];show Zk _
def Jva(h:a<=1000000*b):dG a<=dG b+6:=by have j:=NJ _ _ h;have e:1000000*b=10*(10*(10*(10*(10*(10*b))))):=05;rw[e]at j;have t1:=X5 b;have t2:=X5<|10*b;have k:=X5<|10*(10*b);have C:=X5<|10*(10*(10*b));have B:=X5<|10*(10*(10*(10*b)));have m:=X5<|10*(10*(10*(10*(10*b))));lia
def Jxa(n:Nat):tZ (toString ((n:Int)):String)=dG n:=by have e:=ofString_length<|toString<|(n:Int);calc e.trans ?_;change(Nat.repr n).length=dG n;simp[Nat.repr]
section
seal L4.run L4.WS L4.WR
theorem NK:∀(k n:Nat),n<10^(k+1)->dG n<=k+1
 |0,n,h=>by rw[yF<|by simpa using h];show Zk _
 |k+1,n,h=>by
  by_cases hn:n<10
  .rw[yF hn];show iI _
  .rw[Yw<|ZH hn];have:=NK k (n/10) (Nat.div_lt_of_lt_mul<|by rw[Nat.pow_succ,Nat.mul_comm]at h;show h);show nJ 06
def J7a(h:n<10^60):n.log2<1920:=by
 by_cases j:n=0
 .subst j;decide
 .rw[Nat.log2_lt j];show Zr h<|by decide +kernel
def NL(j:0<=m)(m2:m<=2000*unit)(B:unit<=10^40):∃bA:Nat,m=(bA:Int)/\bA<10^60:=by
 have k:2000*(10:Int)^40<10^60:=by decide +kernel
 let#[bA,rfl]:=E9 j;calc#[bA,rfl,?_];have:(bA:Int)<((10^60:Nat):Int):=by rw[Int.natCast_pow];generalize (10:Int)^40=y at *;generalize ((10:Nat):Int)^60=z at *;lia
 show zo.mp 06
section
variable{k:Nat}{h:IH}
def vh(a b c d):∃m,JP (λi=>[a,b,c,d].getD i 0) 4=m/\a<=m/\b<=m/\c<=m/\d<=m/\∀B,a<=B->b<=B->c<=B->d<=B->m<=B:=by have f:=xK (λi=>[a,b,c,d].getD i 0) 4;calc#[_,rfl,f 0 01,f 1 01,f 2 01,f 3 01,λB k D C E=>xM _ _ _ 01 λj F=>?_];match j,F with|0,_=>show k|1,_=>show D|2,_=>show C|3,_=>show E
def NM(k:e U h=.ok (.int (n:Int)) h)(hn:n<10^60):aR (aP aT) (Jb (aR (aP hi)<|Jb e Je) Je) U h=.ok (.int (dG n:Nat)) h:=by have j:=Jx;have m:aR (aP hi) (Jb e Je) U h=.ok (.str (toString (n:Int):String)) h:=(eN<|ah k).trans (Js<|by rw[B1,J2e];show#[by rw[Int.natAbs_natCast];show J7a hn,rfl,rfl]);have:=NK 59 n hn;show(eN<|ah m).trans (Js<|by rw[B1,IC,Jxa];show#[Zb (Zd _ 999941)<|Zb (Zc this 999941) j,rfl,rfl])
theorem Jta{cs:Ub}(hS:h[S]?=M (.lst ys))(w:bu h lo ys rs)(hu:1<=unit)(I:unit<=10^40)(hf:∀r∈rs,F7 unit r)(bR:rs.length<=12)(X:h[R]?=M (.lst<|cs.map aB))
  (hc:∀c∈cs,c.at_<rs.length/\0<=c.ba/\c.ba<2000*unit/\c.af<2000*unit/\c.len<2000*unit):Dw (k+1) [.ref R,.ref S] h=.ok (.bl Zl) h:=Js (by
 have Y:=w.len;rw[Je1];calc ak<|ae<|ao<|Jf rfl (ae<|dO ?_);rw[JC];calc Jf rfl ((JM _).mpr #[_,hS,?_]);refine JZ (λn U P=>h=P/\∃(g:Int)(C E j D F H:Te),U=[M<|.ref R,M<|.ref S,M<|.int g,C,E,j,D,F,H,Z]/\1<=g/\g<=2000*unit/\(0<n->unit<=g)) (λ_ _ _ z=>z.1▸hS) ?_ ?_ #[rfl,1,Z,Z,Z,Z,Z,Z,rfl,ZO _,05,05]
 .rintro n hn _ _ ⟨rfl,g,C,E,j,D,F,H,rfl,g1,g2,_⟩;have B:n<rs.length:=by rw[<-Y];show hn
  let#[q,ey,_,_]:=w.at_ n _ _ (Zh hn)<|Zh B;have f:=hf _<|Z6 B;rw[ey];generalize rs[n]=r at f;have f1:=f.g1;have f2:=f.g2;have f3:=f.l2;have f4:=f.t2;let#[m,Q,m1,O,_,_,J]:=vh g r.1.gap r.1.len r.1.af;refine d4 rfl (ao<|Jf ((eN<|jJ rfl rfl rfl rfl).trans<|show Y7 _ _=.ok (.int m) h by rw[<-Q];rfl) #[rfl,m,_,_,_,_,_,_,rfl,Z8 g1 m1,J _ g2 05 05 05,λ_=>Z8 f1 O])
 .rintro _ _ ⟨rfl,g,C,E,j,D,F,H,rfl,g1,g2,g3⟩;let#[G,rfl,G6]:=NL (show 0<=g by show Z2 06) g2 I;calc ae<|dO ?_;rw[JC];calc Jf rfl ((JM _).mpr #[_,X,?_]);refine JZ (λn U P=>h=P/\∃V:Te,U=[M<|.ref R,M<|.ref S,M<|.int (G:Int),C,E,j,D,F,H,V]) (λ_ _ _ z=>z.1▸X) ?_ ?_ #[rfl,Z,rfl]
  .rintro n hn _ _ ⟨rfl,V,rfl⟩;rw[Zn]at hn;rw[ZN];let#[c1,W,c3,c4,c5]:=hc _<|Z6 hn;generalize cs[n]=c at c1 W c3 c4 c5;have ug:unit<=(G:Int):=g3<|by rw[Y];show mR 06
   let#[m,Q,m1,_,_,_,J]:=vh (c.at_:Int) c.ba c.af c.len;have O:=J (2000*unit) 05 (Z2 c3) (Z2 c4)<|Z2 c5;let#[bA,rfl,M6]:=NL (show 0<=m by show Z8 W 06) O I;have key:=Jva (a:=bA) (b:=G) 05;have ex:aR (aP XE) (Jb 'j' Je) [M<|.ref R,M<|.ref S,M<|.int (G:Int),C,E,j,D,F,H,M<|aB c] h=.ok (.int (bA:Int)) h:=(eN<|ah rfl).trans<|by rw[<-Q];rfl
   show d4 rfl (aI (cH (fT (NM ex M6)<|aO (NM rfl G6) rfl)<|decide_eq_false 05)<|ax #[rfl,_,rfl])
  .rintro _ _ ⟨rfl,V,rfl⟩;show aj<|Jf rfl #[rfl,rfl])
end
end
section
seal L4.run L4.WS L4.WR
section
variable{k:Nat}{h:IH}
theorem J0h{F p:Nat}{j:Tt}(g:h[F]?=M (.lst<|j.map tupS)):Di (k+1) [.ref F,.int (p:Int)] h=.ok (.int<|(bZ p j).getD 0) h:=Js (by
 rw[Jp0];calc ak<|ae<|ao<|Jf rfl (ae<|dO ?_);rw[JC];calc Jf rfl ((JM _).mpr #[_,g,?_]);refine JZ (λn U m=>h=m/\∃c d e,U=[M<|.ref F,M<|.int (p:Int),M<|.int<|(bZ p<|j.take n).getD 0,c,d,e]) (λ_ _ _ z=>z.1▸g) ?_ ?_ #[rfl,Z,Z,Z,rfl]
 .rintro n hn _ _ ⟨rfl,c,d,e,rfl⟩;rw[Zn]at hn;rw[ZN,Nd<|Zh hn];generalize j[n]=x;by_cases z:x.1=p
  .rw[if_pos z];show d4 rfl (fG (cH (sT rfl rfl)<|decide_eq_true<|by(subst_vars;rfl))<|ao<|Jf rfl #[rfl,_,_,_,rfl])
  .rw[if_neg z];show d4 rfl (aI (cH (sT rfl rfl)<|decide_eq_false 05)<|ax #[rfl,_,_,_,rfl])
 .rintro _ _ ⟨rfl,c,d,e,rfl⟩;rw[Zn,vL];show aj<|Jf rfl #[rfl,rfl])
end
def mO(rs:Ua)(b d:Int)(c:Cm):Bool:=decide (b<=dg c)&&decide (jK rs c<=d)
def jM(rs:Ua)(b d:Int)(cs:Ub):To:=(cs.filter<|mO rs b d).map (·.len)
def J21:mM rs cs b d (cZ cs)=(jM rs b d cs).sum:=by
 have e:(cO cs.length).map (λq=>if b<=aS cs q/\cR rs cs q<=d then cZ cs q else 0)=cs.map λc=>if b<=dg c/\jK rs c<=d then c.len else 0:=by
  refine kZ 03 λi k C=>?_
  have B:i<cs.length:=by simpa using k
  simp![ZN,qm,aS,cR,cZ];rw[Vf B]
 unfold mM jM;rw[e];clear e;induction cs with|nil=>rfl|cons c cs m=>
  rw[eP,nY,m];by_cases q:mO rs b d c=Zl
  .have j:=q;simp![mO,Zv,decide_eq_true_eq]at j;rw[EY q,if_pos j,eP,nY]
  .have j:=q;simp![mO,Zv,decide_eq_true_eq]at j;rw[EZ q,if_neg j,tV]
def gZ(v:IV):j7:=match v with|.int x=>.int x|_=>.none
def J0s{ns:To}(D:h[i]?=M (.lst<|ns.map .int))(k:h[j]?=M (.lst [])):eL (.ref i) (.ref j) h=.ok (.bl (!ns.isEmpty)) h:=by rw[Ey (g:=gZ) D (λx hx=>by let#[n,_,rfl]:=ZS.mp hx;rfl) (λx hx=>by let#[n,_,rfl]:=ZS.mp hx;rfl) k];cases ns<;>rfl
theorem J2i(a b c d)(x0 x1 x2 x3)(U)(h):iF 4 (gC (aF a)<|gC (aF b)<|gC (aF c)<|gC (aF d) gN) (.tup [x0,x1,x2,x3]) U h=.next ((((U.set a<|M x0).set b<|M x1).set c<|M x2).set d<|M x3) h:=rfl
inductive EF(S R:Nat)(d:Int)(h:IH)(m n:Nat):aE->IH->Prop|mk {a3 a4 a5 a6 a7 a8 a9:Te}{h':IH}(l:n<=m) (x:Ex h h'):EF S R d h m n [M (.ref R),M (.ref S),M (.int d),a3,a4,a5,a6,a7,a8,a9] h'
def Jqf(gS:h[S]?=M (.lst ys))(w:bu h lo ys rs)(I:h[R]?=M (.lst<|cs.map aB))(L:∀c∈cs,c.at_<rs.length)(lc:cs.length<=200)(hm:m<cs.length)(ne:jM rs (aS cs m) d cs≠[])(lt:d-aS cs m<(jM rs (aS cs m) d cs).sum):
  WR (Dp (k+1) [.ref R,.ref S,.int d] h) λv h'=>v=.bl Zl/\Ex h h':=by
 have Y:=Jx;rw[Jjj];calc ak<|ae<|dO ?_;rw[JC];calc Jf rfl ((JM _).mpr #[_,I,?_]);refine JZ (EF S R d h m) (λ_ _ _ z=>by cases z with|mk _ x=>show x.get I) ?_ ?_<|.mk (ZF _)<|.refl _
 .rintro n hn _ j (@⟨J,P,F,O,Q,V,B,_,l,x1⟩);rw[Zn]at hn;rw[ZN];have last:n=m->jM rs (dg cs[n]) d cs≠[]/\d-dg cs[n]<(jM rs (dg cs[n]) d cs).sum:=λe=>by subst e;unfold aS at ne lt;rw[Vf hn]at ne lt;show#[ne,lt]
  generalize cs[n]=c at last;calc d4 (J2i ..)<|ae<|ao<|Jf (aO rfl rfl)<|ae<|ao<|Jf (cu rfl rfl)<|ae<|dO ?_;have x2:Ex h (j++[IX.lst []]):=x1.trans<|.one _ _;rw[JC];calc Jf rfl ((JM _).mpr #[_,x2.get I,?_]);refine JZ (λi U h'=>∃B,h'=j++[.lst<|(jM rs (dg c) d<|cs.take i).map .int]/\U=[M<|.ref R,M<|.ref S,M<|.int d,M<|.int c.at_,M<|.int c.ba,M<|.int c.af,M<|.int c.len,M<|.int<|dg c,M<|.ref j.length,B]) (λ_ _ _ ⟨_,e,_⟩=>by rw[e];show grow<|x1.get I) ?_ ?_ #[_,rfl,rfl]
  .rintro i D _ _ ⟨B,rfl,rfl⟩;rw[Zn]at D;rw[ZN,pG D];have ha:=L _<|Z6 D;generalize cs[i]=e at ha;have X:(jM rs (dg c) d<|cs.take i).length<=200:=by unfold jM;rw[Zn];have:=sh (mO rs (dg c) d)<|cs.take i;rw[pM]at this;show Zb (Zb this<|jr _ _) lc
   have ea:jM rs (dg c) d (cs.take i++[e])=jM rs (dg c) d (cs.take i)++if mO rs (dg c) d e=Zl then[e.len]else[]:=by
    unfold jM;rw[List.filter_append,j9];by_cases q:mO rs (dg c) d e=Zl
    .rw[EY q,if_pos q];rfl
    .rw[EZ q,if_neg q];rfl
   rw[ea];generalize jM rs (dg c) d (cs.take i)=ns at X;have E:Ex h (j++[IX.lst<|ns.map IV.int]):=x1.trans<|.one _ _;let#[q,ey,_]:=w.get<|Zh ha;have ay:bq ys (e.at_:Int)=M (fJ rs[e.at_] q):=JI ey;have du:jK rs e=e.ba+(rs[e.at_]).1.aK:=by unfold jK;rw[Q9 ha]
   have t1:=sS (U:=[M<|.ref R,M<|.ref S,M<|.int d,M<|.int c.at_,M<|.int c.ba,M<|.int c.af,M<|.int c.len,M<|.int<|dg c,M<|.ref j.length,M<|aB e]) (h:=j++[IX.lst<|ns.map IV.int]) (b:=Ja 7) (aO (aq (a:=Ja 9) (b:=eC<|.int 1) rfl rfl JN)<|aq (a:=Ja 9) (b:=eC<|.int 2) rfl rfl Ql) rfl;have t2:=oY (U:=[M<|.ref R,M<|.ref S,M<|.int d,M<|.int c.at_,M<|.int c.ba,M<|.int c.af,M<|.int c.len,M<|.int<|dg c,M<|.ref j.length,M<|aB e]) (b:=Ja 2) (aO (aq (a:=Ja 9) (b:=eC<|.int 1) rfl rfl JN)<|aq (b:=eC<|.int 3) (aQ (a:=Ja 1) rfl (aq (a:=Ja 9) (b:=eC<|.int 0) rfl rfl Qa) (E.get gS) ay) rfl Vb) rfl;rw[<-du]at t2;calc d4 rfl ?_;by_cases H:dg c<=dg e
   .have t1:=cH t1<|decide_eq_true<|H;by_cases W:jK rs e<=d
    .have t2:=cH t2<|decide_eq_true W;rw[if_pos<|by unfold mO;rw[decide_eq_true H,decide_eq_true W];rfl];calc fG (mH t1 t2) (Qg<|QD rfl grown VD (Jf (ah<|aq rfl rfl Vb)<|jc grown (by rw[Zn];show Zb (Zd _ 999800)<|Zb (Zc (Zc X 1) 999800) Y) #[_,?_,rfl]));rw[j9];show QS _ _ []
    .have t2:=cH t2<|decide_eq_false W;rw[if_neg (by unfold mO;rw[decide_eq_false W,Bool.and_false];show Zz),lL];show aI (mH t1 t2)<|ax #[_,rfl,rfl]
   .have t1:=cH t1<|decide_eq_false<|H;rw[if_neg (by unfold mO;rw[decide_eq_false H,Bool.false_and];show Zz),lL];show aI (o3 t1)<|ax #[_,rfl,rfl]
  .rintro _ _ ⟨B,rfl,rfl⟩;rw[Zn,vL];generalize jM rs (dg c) d cs=ns at last;have E:Ex h (j++[IX.lst<|ns.map IV.int]):=x1.trans<|.one _ _;generalize eG:j++[IX.lst<|ns.map IV.int]=C at E;have g2:C[j.length]?=M (.lst<|ns.map .int):=by rw[<-eG];show grown
   have t1:Ji aM (Jc eL 'i'<|J0 Je) [M<|.ref R,M<|.ref S,M<|.int d,M<|.int c.at_,M<|.int c.ba,M<|.int c.af,M<|.int c.len,M<|.int<|dg c,M<|.ref j.length,B] C=.ok (!ns.isEmpty) (C++[.lst []]):=bh<|(aD rfl (cu rfl rfl)).trans<|J0s (grow g2) grown;have es:aP cW [.ref j.length] (C++[IX.lst []])=.ok (.int ns.sum) (C++[IX.lst []]):=by change cW (.ref j.length) (C++[IX.lst []])=_;show Js<|xI.mpr #[_,grow g2,_,Qz _,rfl,rfl]
   have t2:=fT (U:=[M<|.ref R,M<|.ref S,M<|.int d,M<|.int c.at_,M<|.int c.ba,M<|.int c.af,M<|.int c.len,M<|.int<|dg c,M<|.ref j.length,B]) (h:=C++[IX.lst []]) (a:=aR (aP cW)<|Jb 'i' Je) (b:=Jc JV 'c' 'h') ((eN<|ah rfl).trans es)<|dE rfl rfl;have go:∀{U:aE}{h':IH},n≠m->Ex h h'->(∃J P F O Q V B,U=[M<|.ref R,M<|.ref S,M<|.int d,J,P,F,O,Q,V,B])->EF S R d h m (n+1) U h':=λnm x ⟨J,P,F,O,Q,V,B,e⟩=>by subst e;show .mk (ZX l nm) x
   cases en:ns.isEmpty with|true=>show aI (o3<|cH t1<|by rw[en];rfl)<|ax<|go (λe=>(last e).1 (List.isEmpty_iff.mp en)) (E.trans<|.one _ _) #[_,_,_,_,_,_,_,rfl]|false=>refine nG (Jf (mH (cH t1<|by rw[en];rfl) t2)<|cX (λq=>aj<|Jf rfl #[rfl,E.trans<|.one _ _]) λq=>ax<|go (λe=>q (last e).2) (E.trans<|.one _ _) #[_,_,_,_,_,_,_,rfl])
 .rintro _ j (@⟨J,P,F,O,Q,V,B,_,l,x1⟩);rw[Zn]at l;show absurd 06<|kQ 06
end
section
seal L4.run L4.WS L4.WR
def A7:eL (.int x) (.int x) h=.ok (.bl Zm) h:=by change Res.ok (IV.bl (!decide (x=x))) h=_;rw[decide_eq_true rfl];rfl
section
variable{R:Nat}{p d:Int}
theorem bq0:(rE R p d).lookup ("row":Str)=M (.ref R):=02
theorem bq1:(rE R p d).lookup ("place":Str)=M (.int p):=02
theorem yG:(rE R p d).lookup ("turn":Str)=M (.int d):=02
theorem bq3:(rE R p d).lookup ("kept":Str)=Z:=02
theorem kq0:([("lines",.ref l)]:Wn).lookup ("lines":Str)=M (.ref l):=02
theorem kq1:([("lines",.ref l)]:Wn).lookup ("kept":Str)=Z:=02
end
section
variable{k:Nat}{h:IH}{S lo bC R n Dt:Nat}{ys:Tw}{rs:Ua}{cs:Ub}{c unit:Int}
def Jq9(Q:h[bC]?=M (.ins "Broken"<|rE R n<|cR rs cs n))(O:h[R]?=M (.lst<|cs.map aB))(B:Bk unit rs cs n)(gS:h[S]?=M (.lst ys))(w:bu h lo ys rs)(bE:Dr c unit rs)(bA:Nums unit rs)(no:∀r∈rs,r.2=[])(d:cF h Dt rs)(t0:h[1]?=M (.tab "Bench.__init__"))(t1:h[0]?=M (.tab "Order.pick")):WR (Ds (k+8) [.ref bC,.ref S,.ref Dt] h) λv _=>v=.bl Zl:=by
 have bR:=bA.bR;have J:=B.l;have hn:=B.hn;have L:=B.L;have oc:=L.ok _<|Z6 hn;let#[_,h1,e1,rfl,I]:=(NI gS w L O<|Zb J<|Zd _ 800).eq;have e2:=Jta (k:=k+6) (I.get gS) (w.kp I.kp) bE.u1 bE.u2 bE.f (Zb bR<|Zd _ 7) (I.get O) B.in_;let#[_,h3,e3,rfl,x3]:=(NI (I.get gS) (w.kp I.kp) L (I.get O)<|Zb J<|Zd _ 800).eq;have D:=I.trans x3;have P:=D.get Q;have C:=D.get O;have V:=D.get gS;have at_:=Xy hn;rw[Vf hn]at at_;have ha:=oc.at_;let#[q,ey,_]:=w.get<|Zh ha;have ay:=JI ey;have du:cR rs cs n=(cs[n]).ba+(rs[(cs[n]).at_]).1.aK:=by unfold cR jK;rw[Vf hn,Q9 ha]
 rw[Jjg];calc ak<|ae<|ao<|Jf (au rfl Q bq0)<|ae<|ao<|Jf (au rfl Q bq1)<|ae ?_;calc aI (iG (bU<|bH<|Jo (ag rfl rfl) e1)<|bU<|bH<|Jo (ag rfl rfl) e2)<|ax<|ae ?_;calc aI (iG (bU<|bH<|Jo (ag rfl rfl) e3)<|iG (cH (fT (dD rfl C) rfl)<|decide_eq_false<|by rw[Zn];lia)<|iG (bU<|bH<|Jo (ah rfl)<|EE (n:Int))<|bU<|bH<|Jo (ah<|au rfl P yG)<|EE _)<|ax<|ae ?_;calc aI (iG (bU<|bh<|DH rfl rfl (dD rfl C) (iM _) (by simp_all))<|bh<|(aD (au rfl P yG)<|aO (aq (aQ rfl rfl C at_) rfl JN)<|aq (aQ rfl (aq (aQ rfl rfl C at_) rfl Qa) V ay) rfl Vb).trans<|by rw[du];show A7)<|ax<|ae ?_;let#[_,h5,e5,bD,rfl,Y,o5]:=(MK (e:=Ja 2) (U:=[M<|.ref bC,M<|.ref S,M<|.ref Dt,M<|.ref R,M<|.int (n:Int)]) rfl (d.kp D.kp) (Zb bR<|Zd _ 7) no).eq;have X:Ex h5 (h5++[IX.lst<|cs.map aB]):=.one _ _;have H:=D.trans<|Y.trans X;let#[_,h7,e7,bB,rfl,_,g7,x7]:=(Nb #[o5.kp X.kp,grown,λc W=>(L.ok c W).at_,bA.six,H.get t1,J] (H.get t0) L J).eq;have le:=J0h (k:=k+6) (p:=n) g7;have j:=H.trans x7;have lt:=B.lt;rw[El hn]at lt;calc aI (cH (oY (Jo (ag (Jo (ag e5<|DI rfl (Y.get C)) e7) rfl) le)<|au rfl (j.get Q) yG)<|decide_eq_false<|gp.mpr lt)<|ax<|aj<|(YO ..).mpr<|Jf (ja rfl rfl (au rfl (j.get Q) yG)) ?_;let#[b,#[m,hm,rfl],bn,E]:=Jzn L bA.six hn B.lt;rw[J21]at E;refine WR.mono (Jqf (j.get gS) (w.kp j.kp) (j.get O) (λc W=>(L.ok c W).at_) J hm (λz=>?_) E) λ_ _ z=>z.1
 have F:(cs[n]).len∈jM rs (aS cs m) (cR rs cs n) cs:=by
  calc mX<|lK.mpr #[Z6 hn,?_];unfold mO;have b1:aS cs m<=dg cs[n]:=by have:=bn;unfold aS at this ⊢;rw[Vf hn]at this;show this
  have b2:jK rs cs[n]<=cR rs cs n:=by unfold cR;rw[Vf hn];show ZO _
  rw[decide_eq_true b1,decide_eq_true b2];rfl
 rw[z]at F;cases F
end
def Dr.nums(bE:Dr c unit rs)(bR:rs.length<=5):Nums unit rs:=by
 have G:=bE.gd<|jo 06;have k:∀d∈rs.map (·.1),Gw d:=λd hd=>by let#[r,j,rfl]:=ZS.mp hd;have f:=bE.f r j;have:=G.gl _ hd;show#[this.1,this.2,f.l1,f.d1,f.t1]
 refine#[bR,λr j=>(G.f r j).ok.bR,k,?_,bE.u1,λr j=>?_]
 .have t1:=XZ k;by_cases e:(rs.map (·.1)).map (·.aK)=[]
  .rw[List.map_eq_nil_iff]at e;rw[e];decide
  .have m:jm (rs.map (·.1))=eV (rs.map (·.1)):=by unfold jm maxD eV;rw[if_neg e,if_neg e]
   have:=Mw G;have C:bw (rs.map (·.1)) (jm (rs.map (·.1)))=X4 (rs.map (·.1)):=by
    unfold bw X4;congr 1;refine si λd _=>?_
    unfold cm;rw[if_pos t1.2,m]
   lia
 .have f:=bE.f r j;have g2:=f.g2;have B:=f.t2;show#[g2,f.l2,05]
section
variable{k:Nat}{h:IH}
def NN(e:h[i]?=M (.ins c fs)):g9 (.ref i) h=M (.ins c):=by simp[g9,e]
theorem J7q:Xw ["Broken"] (.ins "Broken")=M Zl:=02
theorem J7r:Xw ["Kept"] (.ins "Kept")=M Zl:=02
theorem J65:C0 (k+1) [v] h=.ok (.bl Zl) h:=Js<|by rw[Jle];show ak<|aj<|Jf rfl #[rfl,rfl]
theorem J6f:C2 (k+1) [v] h=.ok (.bl Zm) h:=Js<|by rw[Jha];show ak<|aj<|Jf rfl #[rfl,rfl]
def J26(D:h[i]?=M (.lst [.int x]))(m:h[j]?=M (.lst [.int x])):eA (.ref i) (.ref j) h=.ok (.bl Zl) h:=by
 have e:∀{i:Nat},h[i]?=M (.lst [.int x])->toD h 6 (.ref i)=M (.list [.int x]):=λg=>by rw[XY g];rfl
 have k:QH (.ref i) (.ref j) h=M Zl:=by unfold QH;rw[e D,e m];dsimp only;rw[if_pos #[rfl,rfl],Mx _ rfl]
 unfold eA;rw[show VS (.ref i) (.ref j)=Z from rfl];rw[k]
end
def Jv6(ns:To)(hl:ns.length<=63):∃h',Yi 16 [.cJ<|ns.map IV.int] [.tab "Order.pick",.tab "Bench.__init__"]=.ok (.bl Zl) h':=by
 suffices h:WR (Yi 16 [.cJ<|ns.map IV.int] [.tab "Order.pick",.tab "Bench.__init__"]) λv _=>v=.bl Zl by let#[v,h',e,rfl]:=h.eq;show#[h',e]
 have t0:([.tab "Order.pick",.tab "Bench.__init__"]:IH)[1]?=M (.tab "Bench.__init__"):=rfl;have t1:([.tab "Order.pick",.tab "Bench.__init__"]:IH)[0]?=M (.tab "Order.pick"):=rfl;generalize ([.tab "Order.pick",.tab "Bench.__init__"]:IH)=h at t0 t1 ⊢;have c7:=λ(h:IH)=>yg (k:=14) (h:=h) ns 7 01;generalize ns.getD (m9 7) 0=x7 at c7;rw[J3c];have ex:∀{U:aE}{x y:Int}{a b:E1},a U h=.ok (.int x) h->b U h=.ok (.int y) h->Jc eA a b U h=.ok (.bl<|decide (x=y)) h:=λea eb=>aD ea eb;calc ak<|ae<|ao<|(YO ..).mpr<|Jf (ag rfl (ex (bT (Jo (ag rfl rfl)<|c7 h) rfl 01) rfl))<|WR.mono (J1n ns _) ?_;rintro _ J ⟨Y,S,lo,ys,R,c,Q,rfl,_,P,w,H,bR,_⟩
 -- the D,for the rows drawn or made
 have D:∀{J:IH}{S lo:Nat}{ys:Tw}{R:Ua}{N:aE->IH->Prop},Ex h J->J[S]?=M (.lst ys)->bu J lo ys R->Dr c Q R->R.length<=5->WS (Mi 15 [M<|.cJ<|ns.map IV.int,M<|.ref S,Z,Z,Z,Z] J) N λv _=>v=.bl Zl:=by
  intro J S lo ys R N Y P w H bR;have G:=H.gd<|jo 06;have bA:=H.nums bR;have nr:=λr hr=>(G.f r hr).nm
  have nm:=λr hr a ha=>((H.f r hr).ok.each a ha).1
  let#[h2,ev,O,gv,wA,k2]:=Jxe (e:=Ja 1) (U:=[M<|.cJ<|ns.map IV.int,M<|.ref S,Z,Z,Z,Z]) rfl G P w;calc ae<|ao<|(Yc ..).mpr<|Jf (ah ev)<|WR.mono (J6o gv wA G) ?_;rintro _ h3 ⟨rfl,x3,d3⟩;calc#[rfl,?_];generalize h2.length=Dt at d3;have F:=(X8 k2).trans x3;calc ae<|ao<|(YO ..).mpr<|Jf (ah rfl)<|WR.mono (J0f (F.get P) (w.kp F.kp) bA nr nm) ?_;rintro v h4 ⟨x4,X⟩;have xt:=Y.trans<|F.trans x4;calc ae<|(Yf ..).mpr<|(YO ..).mpr<|Jf (ah rfl)<|WR.mono (Jsx (d3.kp x4.kp) bA (xt.get t0)<|xt.get t1) ?_;rintro u m ⟨x5,lj⟩;have W:=F.trans<|x4.trans x5;have x35:=x4.trans x5;have s1:eL (.str "holds") (.str "told") m=.ok (.bl Zl) m:=02;have s2:eL (.str "many") (.str "told") m=.ok (.bl Zl) m:=02;have s3:eL (.str "told") (.str "told") m=.ok (.bl Zm) m:=02;have s4:eA (.str "holds") (.str "holds") m=.ok (.bl Zl) m:=02;have s5:eA (.str "many") (.str "many") m=.ok (.bl Zl) m:=02;have s6:eA (.str "broken") (.str "holds") m=.ok (.bl Zm) m:=02;have s7:eA (.str "broken") (.str "many") m=.ok (.bl Zm) m:=02;have s8:eA (.str "broken") (.str "broken") m=.ok (.bl Zl) m:=02;have s9:∀x:Int,eA (.int x) (.str "holds") m=.ok (.bl Zm) m/\eA (.int x) (.str "many") m=.ok (.bl Zm) m/\eA (.int x) (.str "broken") m=.ok (.bl Zm) m:=λ_=>#[02,02,02]
  cases lj with
  |holds E=>cases X with|holds _=>show d4 rfl (ae<|fG (ED<|bh<|(aD rfl rfl).trans s1)<|aj<|Jf ((aD rfl rfl).trans s4) rfl)|dj z _=>show absurd z E|kept z _ _=>show absurd z E|many z _ _=>show absurd z E
  |many E C a=>cases X with|holds z=>show absurd E z|dj _ z=>let#[x,hx,lt]:=z;show absurd (C x hx)<|gp.mpr lt|kept _ _ z=>show absurd z<|gp.mpr a|many _ _ _=>show d4 rfl (ae<|fG (ED<|bh<|(aD rfl rfl).trans s2)<|aj<|Jf ((aD rfl rfl).trans s5) rfl)
  |told E j=>
   cases j with
   |dj hx lt B I gR=>cases X with|holds z=>show absurd E z|kept _ C _=>show absurd (C _ hx)<|gp.mpr lt|many _ C _=>show absurd (C _ hx)<|gp.mpr lt|dj _ _=>calc d4 rfl (ae<|aI (iG (bh<|(aD rfl rfl).trans s3)<|iG (bh<|(aD rfl rfl).trans s6)<|bh<|(aD rfl rfl).trans s7)<|ax<|ae<|fG (bh<|(aD rfl rfl).trans s8)<|aj ?_);let#[_,h6,e6,rfl]:=(Jq9 I gR B (W.get P) (w.kp W.kp) H bA E (d3.kp x35.kp) ((xt.trans x5).get t0)<|(xt.trans x5).get t1).eq;show Jf (Vy (fH rfl (by rw[NN I];show J7q))<|Vy ((aD (f9 rfl I bq3 (Jg6 _) rfl J6f) rfl).trans rfl)<|Jo (ja rfl rfl rfl) e6) rfl
   |kept C a I gl=>cases X with|holds z=>show absurd E z|dj _ z=>let#[x,hx,lt]:=z;show absurd (C x hx)<|gp.mpr lt|many _ _ z=>show absurd a<|gp.mpr z|kept _ _ _=>calc d4 rfl (ae<|aI (iG (bh<|(aD rfl rfl).trans s3)<|iG (bh<|(aD rfl rfl).trans (s9 _).1)<|bh<|(aD rfl rfl).trans (s9 _).2.1)<|ax<|ae<|aI (bh<|(aD rfl rfl).trans (s9 _).2.2)<|ax<|aj ?_);show Jf (Vy (fH rfl (by rw[NN I];show J7r))<|Vy ((aD (f9 rfl I kq1 (Jk2 _) rfl J65) rfl).trans rfl)<|(aD (au rfl I kq0)<|cu (ah rfl) rfl).trans<|J26 (grow gl) grown) rfl
 refine ae<|nG<|Jf (sT (bT (JY (Jo (ag rfl rfl)<|c7 _) rfl 01 01) rfl 01) rfl)<|cX (λ_=>?_) λ_=>ax<|D Y P w H bR
 calc ao<|(YO ..).mpr<|Jf (ag rfl (JY (Jo (ag rfl rfl)<|c7 _) rfl 01 01))<|WR.mono (Jzo P w H bR) ?_;rintro _ h2 ⟨x2,S',lo',ys',rs',rfl,gS',w',D',V,_⟩;show D (Y.trans x2) gS' w' D' V
end
end LW
end
open PySem L2
theorem LW.walk{l:W.OpenLaw}{q:ZW}{loose:Tj}{XP:(Str->Ta)->bp->Prop}{m:bo->bp->Prop}{d:DefRec}{K:Params->W.Frag}{ts:Tv}(hn:l.most=M 63)(j:d.params.defaults=[]) (C:∀(w:bo) (h:bp),m w h->(K w.params).In h/\∀p∈ts,h.get? p=M (W.tabObj #[]))(B:∀w:bo,L4.Va (K w.params) ["Order.pick","Bench.__init__"] ts=Zl) (F:∀(w:bo)(mg:Str->Ta)(fa:ZD)(h:bp),(K w.params).In h->h.Ns ZJ mg->mg d.name=M (.ref fa) ->∃fd:j5,(∀(s:Zy) (u:Zu),r8 s fd #[[u],[]] [("_law_script",u)])/\∀base:bp,(K w.params).In base->base.Ns ZJ mg->L3.QE mg base->cq l.prog w (K w.params) mg base (L3.fR l.prog w) 64 fa fd ["_law_script"] (L3.XW (K w.params) "_law_script"<|LW.Yi 16)):W.WalkO q loose XP m l.row.toRowW d [] (λf O=>PySem.call f O):=L4.Jxd (n:=63) (k:=64) (x:="_law_script") (f:=LW.Yi 16) (qs:=["Order.pick","Bench.__init__"]) (ts:=ts) hn 01 j #[rfl,01,01] C B F λns D=>LW.Jv6 ns D
open PySem PySem.W PyProof.Rows
structure PySem.W.Fast:Prop where (tw17629285038350238336 tw18191561571811717987 tw17582325622821479720 tw11184995246385157460 tw9568408106410860225 tw13484885495907812804 tw9459905509735728306 tw16528179863920459770 tw2643619643035394414 tw4421644899830511534 tw11357952809076247686 tw15729024185439352094 tw18190379443913410223 tw9147313461224797847 tw14942183021734218917 tw5989924181659043882 tw2070090345513851279 tw12041563669670553811 tw1033365608220997156 tw4545955352799333104 tw15000999743657746805 tw10075532739472659593 tw15530738642928404596 tw13374043062440757908 tw13833916400896231751 tw12731205018678853050 tw10180452249656821000 tw15624047591595059458 tw3757412126214037697 tw10625511862199675662 tw13021170115914277375 tw13525823013826055113 tw16970398791655832323 tw2719581023575231134 tw6271461837294710278 tw17281458353221162039 tw1200899901497544388 tw364568566989370082 tw16025792773380061700 tw7091891395679348669 tw15343809764112808178 tw6272458103095404724 tw15501093581548641547 tw14646645520737321328 tw16387236538522035505 tw14672501949330698810 tw6937782336996451264 tw18160747295838853313 tw10867905682731217565 tw17970345342560984243 tw12642933017348359356 tw14277769438744151904 tw8649269728413539387 tw16011407434935180521 tw12703861697477502805 tw14209484115110685891 tw7908840841136455633 tw10905801544211091101 tw8261099595951403659 tw2719535959095724829 tw10201891599569183618 tw12102044632968646951 tw7768008630785632090 tw7657005394639984331 tw70808568988509967 tw6960291155082321185 tw4196146650466147698 tw1995717934726546329 tw6467976672239344616 tw6228910897679430833 tw4071861633775764799 tw3779149322418422733 tw248590355791477488 tw9765518742402912770 tw7294074018855371197 tw17278231302266849198 tw1281128233667596170 tw8603105644995170236 tw8100962544194787133 tw12142853322883221041 tw5559109499455682509 tw17527192930642818689 tw6693650906933466298 tw12016143357943641223 tw15543749744464150352 tw9078290646004278613 tw15645441993455363217 tw15430477539750375026 tw12393366353314789541 tw17059657684175537875 tw2331861937932925129 tw9265595678705320360 tw2761105835289346757 tw2137783102039859286 tw16159104675838504670 tw1047057395017626738 tw23164903768593965 tw4112847156629193915 tw7460960137532639546 tw7212977698668125978 tw1608342859659011319 tw3200830933810250456 tw13381494524741269156 tw3510630871998611896 tw700700867483460488 tw2420580168480492919 tw2913490298077200415 tw4282500611341260838 tw9361230936561329108 tw5089026735492471954 tw2280418085366466009 tw10425701343629594501 tw4448233442637226029 tw16490502910760788188 tw3366030989166056648 tw39812705803049450 tw17754252623524555316 tw17635733008656380664 tw2773291664566281053 tw10066635531348646282 tw6306182621403496050 tw11607983787883427885 tw11044112821452909937 tw17832821904111711188 tw17697008610105520075 tw10564721969045060579 tw6035426516040114126 tw17279660602736136207 tw2341943089359824140 tw7115953635444863654 tw1702672966871742906 tw2479388727060503513 tw8637806118064375162 tw17781444074446813163 tw5985571881012205928 tw5764681622785707235 tw17852934026267767233 tw15422699691784377219 tw6592902572406394177 tw4416850062357962268 tw11025130013841732943 tw8872454082160314893 tw9659653454627915967 tw6557778097514152652 tw14450171967267877962 tw3922507243324127748 tw14433071317842986691 tw3836656692731489280 tw4577482844754194052 tw14238998998485684719 tw2889789785352112269 tw1815318755970146541 tw6038614123451637274 tw12856706673943768104 tw17073071657976333616 tw5122675504639410235 tw17947589053723788569 tw7983405463222926773 tw13136042677391624986 tw10806124521574773899 tw3321589437246697267 tw14420673189989581995 tw6606859441886197891 tw1970186817073342640 tw10936320102900885715 tw12811405576137101206 tw430882471750706146 tw14371535404361785332 tw12350877822216448223 tw14280449772330808941 tw4115220593971926511 tw13930169502674950938 tw7035545823027816378 tw15106478636432368019 tw344979511998467108 tw13081973641090765981 tw14469844775454237719 tw1860691294683172959 tw2344591930136837618 tw11111678741684933300 tw4897685844788414744 tw17129458903401407039 tw7116585159076012896 tw8258776725596238077 tw841326477630885921 tw352614095217917973 tw16893958524357888376 tw611782396107648232 tw17213694729895933892 tw6023059898752228910 tw12233071069648506364 tw6365791019963509188 tw15915169357441406407 tw9436635066533362606 tw5814243880906818352 tw16438710095970735437 tw9212868733289342610 tw7878998967433367098 tw12989072019687235212 tw2293969578478037702 tw16853819419074441318 tw5360913641419324346 tw8174134419203145028 tw2030717037495311583 tw13270420374416984265 tw5044617973124472470 tw2552557555566784373 tw3838800383875713083 tw151098883288871411 tw10961577108071732252 tw15702627159365602499 tw6819916637988904805 tw15803045211126835747 tw1569087822492385009 tw3664730981209504899 tw15899668690039591219 tw15420103757557052876 tw4848100935792450506 tw2701613113264856300 tw11058730078547733349 tw17139180737345935594 tw16519985441568044526 tw10043135682419458083 tw17661253600022049041 tw14737803264995758473 tw10945548824783517270 tw12251131750215420956 tw3726827469941730346 tw15642953510790152821 tw6974796398792919141 tw17255631033908209187 tw812008857821257030 tw5888646149407260146 tw17899760136027157038 tw12552695825090512415 tw16828408823763606806 tw1797275558989913597 tw18086434417985697343 tw1903856818575718562 tw4227902312195843226 tw11973770891221371544 tw9586651085707355929 tw8733872442129471928 tw13519621232537679772 tw727980598881057340 tw2753635364255818611 tw2189393976527339642 tw436981786991397625 tw7009443520310561205 tw9981298559872329391 tw8278214182687625078 tw16342485197393611222 tw8475568776123853934 tw17298710316535734626 tw6746819869615199178 tw10014565559157405120 tw229875412635163435 tw4189002544105743942 tw3670296250302099742 tw14788508549226802308 tw2673708509184334784 tw9968011126520187197 tw3281212217472276703 tw7381370483091970370 tw16027826001921238891 tw14399798019032038499 tw8874667839752028764 tw6152622615940011667 tw1732311666803082620 tw3160493407193232112 tw9678035431970083828 tw10409693917803883143 tw6920743226804388004 tw13394108157240966066 tw8273346118306979756 tw5439381865924120263 tw16949866615009286823 tw2191096246252105773 tw15248300983617037967 tw3016172588975322815 tw2297013547751351522 tw13672216078216364474 tw869251849577747351 tw9183033438120457863 tw3119510800670607772 tw11386660714491842244 tw1151354619352628570 tw4410045922567387305 tw11328299592694384291 tw11399319573276607085 tw11732454056593757955 tw16143416002289696703 tw10295534483980857123 tw5368382408706476423 tw2760323569604407796 tw11103050665878890639 tw5134188090555299890 tw16428235041726427090 tw14731730634219684048 tw6621570526586244538 tw12963853148352090537 tw4414917540965186815 tw1953015474083564600 tw10476639987040821605 tw5291108249467615071 tw12607873388768255882 tw10481062599996951759 tw5598933385062997000 tw156913731253975912 tw12091726485695882447 tw8360906708477679660 tw15818778048620019378 tw12025541687086007263 tw11260854626079079762 tw1549127789593234024 tw6538483116161068931 tw533710752416476849 tw6491512342793378458 tw13418044619843161272 tw6278057821573246933 tw2767756717178454909 tw384746003465884432 tw7513717169990327953 tw15766983441129819790 tw13862799916416112730 tw15662879761894388711 tw8165729410701772533 tw8362548786378367565 tw7930886144537929275 tw11032236374262197678 tw3045854829715213267 tw3424171805426438960 tw5398492350280311119 tw5068802224038318643 tw11853251333767460060 tw16569404432860986583 tw14700061782573408661 tw14263090862786522510 tw16986376045790271031 tw1727921734609560243 tw402458080687423805 tw5077461458135753290 tw17550995291958548388 tw17895432057779149703 tw15979659626777321962 tw17064107997023680117 tw2831833317453965467 tw6778737527136297900 tw18297560115500395865 tw17734299759857282945 tw12398657422303583759 tw16237772299902592575 tw8085052630118561289 tw15335947264256601677 tw13294921496445165051 tw6270263427901012012 tw7190736669968739371 tw4547581088671433057 tw13217913670408368076 tw1679260684551583633 tw7693505193736465860 tw182447045390880877 tw11536215263239110197 tw12780826127001926351 tw17220605041474519919 tw9054731512869230944 tw13460284285538731705 tw5098267492809263022 tw9650582963573165379 tw2559601223697468314 tw17805169076061364327 tw9241926567870427697 tw2854861252774884720 tw3713004595980141612 tw14517848575297370596 tw15751836157819662684 tw12659275535834926665 tw8272467014436819211 tw5464709812239729579 tw4355383103419439193 tw1896614060607263927 tw8964694549034473932 tw8108326138966561688 tw17334332919871679482 tw6597818409534286286 tw16456436693735757126 tw1116818452943441532 tw18367702871454554914 tw5311588150121779726 tw7953541469278852433 tw14028424227003821818 tw8000657073151886180 tw12403689285151247261 tw7353791801157746467 tw16717764681863745971 tw17695074087583839225 tw15999115647668262184 tw8196705980996860468 tw14273000399460661702 tw18197330455139727902 tw15303741167854086440 tw355901975771576656 tw5978967813636529141 tw1315997652170940274 tw2036643381383885592 tw12356870883235399483 tw6810959939098890051 tw17451233010713572194 tw12261653935217751112 tw412465931117441551 tw8175676349018897279 tw14037338329751650746 tw11182764515570164973 tw2798569152044653890 tw4924193154032404673 tw11869171702614498899 tw9571521758764719477 tw4572406960335068662 tw8572668512936061672 tw11052038006566997794 tw7304556430528266459 tw9741620439048955211 tw1944405584766364915:True)
set_option maxRecDepth 100000 in
set_option maxHeartbeats 0 in
theorem PySem.Challenge.cw_dutyproof_k64_judged_by_the_nearest_due_holds : PySem.Challenge.rw_dutyproof_k64_judged_by_the_nearest_due.Holds := by
 w_on;o_law;k_head;(case hw=>w_witness2)
 k_fill
 calc LW.walk (l:=PySem.Challenge.rw_dutyproof_k64_judged_by_the_nearest_due) rfl rfl (λw h YY=>⟨W.km_in_of YY,W.km_tabs_of YY⟩) ?HC ?F;case HC=>show λw=>by kernel_rfl
 case F=>
  intro w mg fa h KX G hmg;refine' L4.last (T:=LW.T) (d:=LW.Cq) ["Work","Bench","Order","ByDue","Verdict","Kept","Broken","Duty"] KX G hmg rfl ?p0 rfl rfl (L4.lZ λ_=>rfl) ?p1 ?p2 ?p3 ?p4 ?q0 λhh=>L4.J5n _ ?q1 ?q2 ?q3 ?q4 hh ?q5 ?q6 ?q7 ?q8 ?q9
  case p0=>kernel_rfl
  case p1=>k_is
  case p2=>k_is
  case p3=>k_is
  case p4=>k_is
  case q0=>repeat (first|show .nil|(apply L4.cC;(iterate 9 k_is);kernel_rfl))
  all_goals repeat (first|show .nil|(apply L4.coC KX G;k_is)|(apply L4.isC KX G;k_is;kernel_rfl)|(apply L4.frC KX G;k_is)|(apply L4.rzC KX G;k_is;k_exc)|(apply L4.xiC KX G;k_is)|(apply L4.xpC;(iterate 7 k_is);(iterate 2 kernel_rfl))|(apply L4.bsC KX G;(iterate 6 k_is))|(apply L4.mtC;k_is;kernel_rfl)|(first|(apply L4.fnC KX G;k_is)|(apply L4.meC;(iterate 3 k_is))|(apply L4.inC KX G;(iterate 5 k_is);kernel_rfl));apply L4.Dk.mk';kernel_rfl;rfl;k_is;kernel_rfl;(iterate 2 k_is);(first|show .all (L4.lZ λ_=>rfl)|show .all (L4.BY λ_ _=>rfl)|show .all (L4.BZ λ_ _ _=>rfl)|show .all (L4.B0 λ_ _ _ _=>rfl)|show .all (L4.uR λ_ _ _ _ _ _ _=>rfl)|show λs us YY e=>by rw[lL]at e ⊢;revert us;show L4.uR λ_ _ _ _ _ _ _=>.of_defaults rfl (YY _ _<|by k_is) rfl rfl rfl))
